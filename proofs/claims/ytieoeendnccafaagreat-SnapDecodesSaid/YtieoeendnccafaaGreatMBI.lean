/- A value that stands at a place of items, as the document takes it. No condition but those named. -/
import Derived.Test.YtieoeendnccafaaGreatMTK
import Derived.Test.YtieoeendnccafaaGreatMBG
import Derived.Test.YtieoeendnccafaaGreatWireDecode
import Derived.Test.YtieoeendnccafaaGreatApRight
import Derived.Test.YtieoeendnccafaaGreatMBE
import Derived.Test.YtieoeendnccafaaGreatMBF
set_option linter.unusedSimpArgs false
set_option linter.unusedVariables false
set_option maxRecDepth 100000
set_option maxHeartbeats 25600000
namespace Go.Proofs.YtieoeendnccafaaGreat
section
open Go.RowKit
theorem wire_len:∀l:List Wire.It,l.length≤(Wire.all l).length
 | []=>Nat.zero_le _
 | x::t=>by
  have h1:=Wire.one_pos x
  have h2:=wire_len t
  rw[Wire.all_cons,List.length_append,List.length_cons]
  omega
theorem its_own{base:Nat}{w:World}{v:Value}{l:List Wire.It}(h:Its base w v l):itemLay.Own base w v (l.map Snp.ofW):=by
 have e1:(l.map Snp.ofW).length=l.length:=List.length_map ..
 have e2:itemLay.flat (l.map Snp.ofW)=flat l:=by
  unfold Lay.flat flat
  rw[List.flatMap_map]
  rfl
 unfold Lay.Own
 rw[e1,e2]
 exact h
theorem Snp.flat_ge{α:Type}{f:α→Snp.Its}(h:∀x,1≤(f x).length):∀l:List α,l.length≤(l.flatMap f).length
 | []=>Nat.le_refl _
 | x::l=>by
  have:=flat_ge h l
  have:=h x
  rw[List.flatMap_cons,List.length_append,List.length_cons]
  omega
theorem Snp.flat_in{α:Type}{f:α→Snp.Its}{l:List α}{x:α}(h:x∈l):(f x).length≤(l.flatMap f).length:=by
 induction l with
 | nil=>cases h
 | cons y t ih=>
  rw[List.flatMap_cons,List.length_append]
  rcases List.mem_cons.1 h with rfl|h
  ·omega
  ·have:=ih h;omega
theorem Snp.many_ge{α:Type}{f:α→Snp.Its}(h:∀x,1≤(f x).length)(l:List α):l.length≤(Snp.many f l).length:=by
 have:=flat_ge h l
 unfold Snp.many
 rw[List.length_cons]
 omega
theorem Snp.st_fo{s:Ap.St}{c:Bool}(hf:Snp.Fit (Snp.stI s))(hg:Snp.stG c s)(hl:(Snp.stI s).length≤16384):s.l.length≤16384∧∀o∈s.l,Fo o:=by
 have hm:(Snp.many Snp.obI s.l).length≤16384:=by
  unfold Snp.stI at hl
  rw[List.length_cons,List.length_append] at hl
  omega
 have h1:∀o:Sto.Ob,1≤(Snp.obI o).length:=fun o=>by
  unfold Snp.obI
  rw[List.length_append]
  show 1≤4+_
  omega
 refine⟨Nat.le_trans (Snp.many_ge h1 s.l) hm,fun o ho=>?_⟩
 have hfl:(s.l.flatMap Snp.obI).length≤16384:=by
  unfold Snp.many at hm
  rw[List.length_cons] at hm
  omega
 have hol:(Snp.obI o).length≤16384:=Nat.le_trans (Snp.flat_in ho) hfl
 have q0:Snp.Fit (Snp.n1 s.n::(Snp.many Snp.obI s.l++Snp.tbI s.t)):=hf
 have q1:Snp.Fit (Snp.obI o):=(q0.cons.head.cons).of ho
 have q2:Snp.Fit (Snp.n1 o.kind::Snp.n1 o.cap::Snp.n1 o.round::(Snp.many Snp.prI o.prs++(Snp.many Val.items o.vals++(Snp.many Snp.rfI o.refs++Snp.mtI o.mt)))):=Snp.Fit.cons (x:=Snp.t1 o.name) q1
 have hd:=q2.cons.cons.rng
 have q3:=q2.cons.cons.cons.tail.tail.tail
 have hn : -9223372036854775808≤o.mt.n∧o.mt.n≤9223372036854775807:=Snp.Fit.rng (b:=[Snp.n1 (Val.sg o.mt.s),Snp.n1 (Val.sg o.mt.l),Snp.n1 (Val.sg o.mt.m)]) q3
 have g:=hg.l.2 o ho
 have k1:=Snp.many_ge (f:=Snp.prI) (fun p=>by unfold Snp.prI;rw[List.length_cons];omega) o.prs
 have k2:=Snp.many_ge (f:=Val.items) (fun v=>(nit_len v).1) o.vals
 have k3:=Snp.many_ge (f:=Snp.rfI) (fun v=>by show 1≤3;decide) o.refs
 unfold Snp.obI at hol
 simp only[List.length_append] at hol
 refine⟨⟨fun p hp=>(g.p.2 p hp).2,?_⟩,⟨fun v hv=>(g.v.2 v hv).2,?_⟩,⟨fun _ _=>trivial,?_⟩,⟨hn.2,g.m.1,g.m.2.1,g.m.2.2⟩,hd.2⟩
 ·show o.prs.length≤2513169434916
  omega
 ·show o.vals.length*40≤_
  omega
 ·show o.refs.length*24≤_
  omega
def IsDec(r:Ap.St×Int)(w:World)(e:Ending)(w':World):Prop:=∃x:Sh,x.v=r.1∧e=.returned (.tuple #[x.enc,.int .i64 r.2])∧Kn w.heap.size w w' [] (olRows x.q)
def shz:Sh:=⟨0,⟨none,0,0,[]⟩,tz⟩
theorem isDec_no{w w':World}{n:Int}(h:Below w.heap.size w w'):IsDec (Snp.stz,n) w (.returned (.tuple #[.agg (stA 0 none 0 0 tz),.int .i64 n])) w':=
 ⟨shz,rfl,rfl,((Kn.start w).call h).nilR obLay⟩
theorem ret_ce{f:Func}{Q:Ending→World→Prop}{a:Act}{w:World}{B:Nat}{n:Int}{A:Option Addr}{k c:Nat}{t:Ses.T}{u:Value}{q q2:Tmp}(hf:f.results=#[.cell q 33,.tmp q2])(h2:a.tmps[q]?=some (.pointer (some ⟨B,0,none⟩)))(h3:a.tmps[q2]?=some u)(hd:a.defers=[])(hb:Blk w B 33 (stA n A k c t))
  (hR:Q (.returned (.tuple #[.agg (stA n A k c t),u])) w):bodyPost Tryz.prog f Q Exit.ret a w:=ret_sto hf h2 h3 hd hb hR
theorem Sh.obs{b0:Nat}{w0 w:World}{L:List (Nat×TypeId×Array Value)}{R:List RowE}{x:Sh}{c:Bool}(k:Kn b0 w0 w L R)(hR:∀y∈olRows x.q,y∈R)(hf:Snp.Fit (Snp.stI x.v))(hg:Snp.stG c x.v)(hl:(Snp.stI x.v).length≤16384):Obs w x.q.A x.q.n x.q.c x.q.l∧Ses.Fit x.t:=by
 obtain⟨h1,h2⟩:=Snp.st_fo hf hg hl
 have hm:row obLay (.slice x.q.A x.q.n x.q.c) x.q.l∈R:=hR _ (List.mem_cons_self ..)
 have hn:=(k.mem hm).reads.1
 have h1':(vs x.q.l).length≤16384:=h1
 rw[vs_len] at h1'
 exact⟨k.obs hm (fun y hy=>hR y (List.mem_cons_of_mem _ hy)) h2 (by omega),(Snp.G_ft hg).t⟩
theorem rdecode2_any(b:ByteArray)(w:World)(hs:b.size≤140737488351232):Calls Tryz.prog 20 #[.string b] w (IsDec (Snp.D false b) w):=by
 have HD:Hid (∀W,Calls Tryz.prog 50 #[.string b] W fun e w'=>∃A n c,e=.returned (.tuple #[.slice A n c,.int .i64 (Wire.D b).2])∧itemLay.Own W.heap.size w' (.slice A n c) ((Wire.D b).1.map Snp.ofW)∧Below W.heap.size W w'):=zH fun W=>(decode_any b W hs).mono fun e w' h=>by
  obtain⟨v,h1,h2,h3⟩:=h
  have ho:=its_own h2
  obtain⟨A,c,rfl⟩:=ho.shape
  exact⟨A,_,c,h1,ho,h3⟩
 have HK:=zH (Kn.start w)
 by_cases hz:(Wire.D b).2=0
 case neg=>
  have HN:Hid (Snp.D false b=(Snp.stz,(Wire.D b).2)):=zH (if_neg hz)
  rw[HN.out]
  have hz2:((Wire.D b).2 != 0)=true:=by simpa using hz
  generalize (Wire.D b).2=z at *
  clear hz HN hs
  go_enter Tryz.func20,Tryz.ntmps20
  go_wp2_with (first|(refine wpList_ast HK rfl rfl ?_;intro _ g1 HK';simp only[lnA] at HK';replace HK:=HK';clear HK'))
  refine(HD.out _).mono ?_;rintro e w1 ⟨A,n,c,rfl,o1,b1⟩
  replace HK:=hkC HK b1
  clear o1 b1 HD
  go_wp2_with (first|refine zX (exec_bst0 (by rfl)) ?_|(refine wpList_sst (m:=0) (B:=none) (i:=0) (j:=0) (u:=tz) HK 0 rfl _ _ rfl rfl rfl rfl ?_;intro _ HK';simp only[List.set] at HK';replace HK:=HK';clear HK'))
  exact ret_ce Tryz.results20 rfl rfl rfl (HK.out.blk 0 rfl) (isDec_no HK.out.b)
 case pos=>
 have hfit:=Snp.fit_D hz
 obtain⟨l0,hl0,hsz,hall,_⟩:=Wire.D_ok hz
 have hlen:((Wire.D b).1.map Snp.ofW).length≤16384:=by
  have h1:=wire_len l0
  have h2:(Wire.all l0).length=b.size:=by rw[hall];exact Array.length_toList
  rw[hl0,List.length_map]
  show l0.length≤_
  omega
 have HDD:Hid (Snp.D false b=Snp.D1 false ((Wire.D b).1.map Snp.ofW)):=zH (if_pos hz)
 rw[HDD.out]
 rw[hz] at HD
 generalize (Wire.D b).1.map Snp.ofW=l at *
 clear hz hl0 hsz hall HDD hs
 have HF:=zH hfit
 have HL:=zH hlen
 clear hfit hlen
 go_enter Tryz.func20,Tryz.ntmps20
 go_wp2_with (first|(refine wpList_ast HK rfl rfl ?_;intro _ g1 HK';simp only[lnA] at HK';replace HK:=HK';clear HK'))
 refine(HD.out _).mono ?_;rintro e w1 ⟨A,n,c,rfl,o1,b1⟩
 have hrd:=Lay.Own.rd o1
 have hrn:=(Lay.Own.reads o1).1
 have hcap:=Lay.Own.cap o1
 have HRead:=zH (rread_any A n c l w1 hrd.1 hrn.symm hrd.2 (by omega) (by have:=HL.out;omega))
 replace HK:=hkC HK b1
 clear o1 b1 HD hrd hrn hcap
 go_wp2_with fail
 refine(HRead.out).mono ?_;intro e w2 hq
 clear HRead
 unfold IsRead at hq
 rcases hp:Snp.stP false l with _|⟨s,r⟩
 ·rw[hp] at hq
  obtain⟨rfl,b2⟩:=hq
  have HN:Hid (Snp.D1 false l=(Snp.stz,3)):=zH (by unfold Snp.D1;rw[hp])
  replace HK:=hkC HK b2
  clear hp b2
  go_wp2_with (first|go_big_skip|(refine wpList_ast HK rfl rfl ?_;intro _ g3 HK';simp only[lcA,lnA] at HK';replace HK:=HK';clear HK')|(refine wpList_sst (m:=0) (B:=none) (i:=0) (j:=0) (u:=tz) HK 1 rfl _ _ rfl rfl rfl rfl ?_;intro _ HK';simp only[List.set] at HK';replace HK:=HK';clear HK')|refine zX (exec_bst0 (by rfl)) ?_|(refine wpList_sst (m:=0) (B:=none) (i:=0) (j:=0) (u:=tz) HK 0 rfl _ _ rfl rfl rfl rfl ?_;intro _ HK';simp only[List.set] at HK';replace HK:=HK';clear HK'))
  exact ret_ce Tryz.results20 rfl rfl rfl (HK.out.blk 0 rfl) (by rw[HN.out];exact isDec_no HK.out.b)
 rw[hp] at hq
 obtain⟨x,bb,hx,hbb,rfl,k2⟩:=hq
 obtain⟨e1,e2⟩:=Snp.stP_snd HF.out hp
 by_cases hr:r=[]
 case neg=>
  have hb:bb=false:=by
   cases bb
   ·rfl
   ·exact absurd (hbb.1 rfl) hr
  subst hb
  have HN:Hid (Snp.D1 false l=(Snp.stz,3)):=zH (by
   unfold Snp.D1
   rw[hp]
   match r,hr with
   | [],hr=>exact absurd rfl hr
   | y::t,_=>rfl)
  replace HK:=zH (HK.out.call k2.b)
  clear hp k2 e1 e2 hbb hr hx
  unfold Sh.enc
  go_wp2_with (first|go_big_skip|(refine wpList_ast HK rfl rfl ?_;intro _ g3 HK';simp only[lcA,lnA] at HK';replace HK:=HK';clear HK')|(refine wpList_sst (m:=x.n) (B:=x.q.A) (i:=x.q.n) (j:=x.q.c) (u:=x.t) HK 1 rfl _ _ rfl rfl rfl rfl ?_;intro _ HK';simp only[List.set] at HK';replace HK:=HK';clear HK')|refine zX (exec_bst0 (by rfl)) ?_|(refine wpList_sst (m:=0) (B:=none) (i:=0) (j:=0) (u:=tz) HK 0 rfl _ _ rfl rfl rfl rfl ?_;intro _ HK';simp only[List.set] at HK';replace HK:=HK';clear HK'))
  exact ret_ce Tryz.results20 rfl rfl rfl (HK.out.blk 0 rfl) (by rw[HN.out];exact isDec_no HK.out.b)
 case pos=>
 subst hr
 rw[List.append_nil] at e1
 have hb:bb=true:=hbb.2 rfl
 subst hb
 subst hx
 rw[e1] at HF HL
 replace HK:=zH (HK.out.join k2)
 simp only[lnA] at HK
 have HRt:Hid (∀W L,Kn w.heap.size w W L (olRows x.q)→Calls Tryz.prog 13 #[.agg (stA x.n x.q.A x.q.n x.q.c x.t)] W (IsB (decide (Ap.Ok x.v)) W)):=zH fun W L hk=>by
  obtain⟨ho,hf⟩:=Sh.obs hk (fun y hy=>hy) HF.out e2 HL.out
  exact apright_any x.n x.q.A x.q.n x.q.c x.t x.q.l W ho hf
 by_cases hok:Ap.Ok x.v
 ·have HN:Hid (Snp.D1 false l=(x.v,0)):=zH (by unfold Snp.D1;rw[hp];exact if_pos hok)
  rw[decide_eq_true hok] at HRt
  unfold IsB at HRt
  clear hp k2 e1 e2 hbb hok
  unfold Sh.enc
  go_wp2_with (first|go_big_skip|(refine wpList_ast HK rfl rfl ?_;intro _ g3 HK';simp only[lcA,lnA] at HK';replace HK:=HK';clear HK')|(refine wpList_sst (m:=x.n) (B:=x.q.A) (i:=x.q.n) (j:=x.q.c) (u:=x.t) HK 1 rfl _ _ rfl rfl rfl rfl ?_;intro _ HK';simp only[List.set] at HK';replace HK:=HK';clear HK')|refine zX (kst HK 1 _ (by rfl) (by rfl) (by rfl)) ?_)
  refine(HRt.out _ _ HK.out).mono ?_;rintro e w3 ⟨rfl,b3⟩
  replace HK:=hkC HK b3
  clear b3 HRt
  go_wp2_with (first|refine zX (kst HK 1 _ (by rfl) (by rfl) (by rfl)) ?_|(refine wpList_sst (m:=x.n) (B:=x.q.A) (i:=x.q.n) (j:=x.q.c) (u:=x.t) HK 0 rfl _ _ rfl rfl rfl rfl ?_;intro _ HK';simp only[List.set] at HK';replace HK:=HK';clear HK'))
  exact ret_ce Tryz.results20 rfl rfl rfl (HK.out.blk 0 rfl) (by rw[HN.out];exact⟨x,rfl,rfl,HK.out.takeL 0⟩)
 ·have HN:Hid (Snp.D1 false l=(Snp.stz,3)):=zH (by unfold Snp.D1;rw[hp];exact if_neg hok)
  rw[decide_eq_false hok] at HRt
  unfold IsB at HRt
  clear hp k2 e1 e2 hbb hok
  unfold Sh.enc
  go_wp2_with (first|go_big_skip|(refine wpList_ast HK rfl rfl ?_;intro _ g3 HK';simp only[lcA,lnA] at HK';replace HK:=HK';clear HK')|(refine wpList_sst (m:=x.n) (B:=x.q.A) (i:=x.q.n) (j:=x.q.c) (u:=x.t) HK 1 rfl _ _ rfl rfl rfl rfl ?_;intro _ HK';simp only[List.set] at HK';replace HK:=HK';clear HK')|refine zX (kst HK 1 _ (by rfl) (by rfl) (by rfl)) ?_)
  refine(HRt.out _ _ HK.out).mono ?_;rintro e w3 ⟨rfl,b3⟩
  replace HK:=hkC HK b3
  clear b3 HRt
  go_wp2_with (first|refine zX (exec_bst0 (by rfl)) ?_|(refine wpList_sst (m:=0) (B:=none) (i:=0) (j:=0) (u:=tz) HK 0 rfl _ _ rfl rfl rfl rfl ?_;intro _ HK';simp only[List.set] at HK';replace HK:=HK';clear HK'))
  exact ret_ce Tryz.results20 rfl rfl rfl (HK.out.blk 0 rfl) (by rw[HN.out];exact isDec_no HK.out.b)
end
section
open Go.RowKit
namespace Snp
def aw:ByteArray:=⟨#[0,0,0,0,0,0,0,0,0,0,0,0,0,0,0,0,0,0,0,0,0,0,0,0,0,0,0,0,0,0,0,0]⟩
theorem ok_z:Ap.Ok stz:=Ap.ok_0
theorem fit_z:Fit (stI stz):=by
 intro x hx
 have h:∀y∈stI stz,y=n1 0∨y=t1 Val.emp:=by decide
 rcases h x hx with rfl|rfl<;>exact⟨fun _=>rfl,fun _=>rfl,by decide,by decide⟩
theorem ft_z:Ft stz:=⟨fun o ho=>(by cases ho),fun o ho=>(by cases ho),fun o ho=>(by cases ho),fun c hc=>by
 rcases Ses.cases5 hc with rfl|rfl|rfl|rfl|rfl<;>decide⟩
theorem one_0:Wire.one (toW (n1 0))=[0]:=by
 simp[Wire.one,toW,n1,Wire.lead,Wire.fold,Wire.nb,Wire.B]
theorem aw_I:(stI stz).map toW=List.replicate 32 (toW (n1 0)):=rfl
theorem all_rep(x:Wire.It)(b:UInt8)(h:Wire.one x=[b]):∀n,Wire.all (List.replicate n x)=List.replicate n b
 | 0=>rfl
 | n+1=>by
  have e:=all_rep x b h n
  unfold Wire.all at e ⊢
  rw[List.replicate_succ,List.flatMap_cons,h,e]
  rfl
theorem aw_E:E stz=(aw,0):=by
 rw[E_ok ok_z fit_z,aw_I,all_rep _ 0 one_0]
 rfl
theorem aw_D:D false aw=(stz,0):=by
 have h:=back ok_z fit_z ft_z false
 rw[aw_E] at h
 exact h
theorem aw_W:Wire.D (aw++⟨#[0]⟩)=(List.replicate 33 (toW (n1 0)),0):=by
 have hg:∀x∈List.replicate 33 (toW (n1 0)),x=toW (n1 0):=fun x hx=>(List.mem_replicate.1 hx).2
 have e:Wire.E (List.replicate 33 (toW (n1 0)))=(⟨(Wire.all (List.replicate 33 (toW (n1 0)))).toArray⟩,0):=Wire.E_of (by decide) (by rw[all_rep _ 0 one_0];decide)
 have h:=Wire.back (l:=List.replicate 33 (toW (n1 0))) (fun x hx=>by rw[hg x hx];exact⟨by decide,by decide⟩) (by rw[e])
 rw[e,all_rep _ 0 one_0] at h
 exact h
theorem aw_D2:D false (aw++⟨#[0]⟩)=(stz,3):=by
 unfold D
 rw[aw_W]
 rfl
end Snp
theorem Sh.nz{x:Sh}(h:x.v=Snp.stz):x.n=0∧x.t=tz∧x.q.l=[]:=by
 obtain⟨n,⟨A,k,c,l⟩,t⟩:=x
 have h1:=congrArg Ap.St.n h
 have h2:=congrArg Ap.St.t h
 have h3:=congrArg Ap.St.l h
 exact⟨h1,h2,List.map_eq_nil_iff.1 h3⟩
theorem snawake_any(w:World):Calls Tryz.prog 19 #[] w (IsB true w):=by
 have HK:=zH (Kn.start w)
 have HE:Hid (∀W,Calls Tryz.prog 17 #[.agg (stA 0 none 0 0 tz)] W (IsBe (Snp.aw,0) W)):=zH fun W=>by
  have h:=nencode_any 0 none 0 0 tz [] W ⟨Sls.none _,fun x hx=>by cases hx⟩ Snp.ft_z.t Snp.fit_z
  rw[show(⟨0,vs [],tz⟩:Ap.St)=Snp.stz from rfl,Snp.aw_E] at h
  exact h
 have HD1:Hid (∀W,Calls Tryz.prog 20 #[.string (Snp.aw++⟨#[0]⟩)] W (IsDec (Snp.stz,3) W)):=zH fun W=>by
  have h:=rdecode2_any (Snp.aw++⟨#[0]⟩) W (by decide)
  rw[Snp.aw_D2] at h
  exact h
 have HD2:Hid (∀W,Calls Tryz.prog 20 #[.string Snp.aw] W (IsDec (Snp.stz,0) W)):=zH fun W=>by
  have h:=rdecode2_any Snp.aw W (by decide)
  rw[Snp.aw_D] at h
  exact h
 have hl:(Snp.aw.size:Int)=32:=rfl
 generalize Snp.aw=b at *
 unfold IsBe at HE
 unfold IsB
 go_enter Tryz.func19,Tryz.ntmps19
 go_wp2_with fail
 refine(HE.out _).mono ?_;rintro e w1 ⟨rfl,b1⟩;replace HK:=hkC HK b1;clear b1
 go_wp2_with fail
 refine(HD1.out _).mono ?_;rintro e w1 ⟨x,hx,rfl,k1⟩;replace HK:=zH (HK.out.join k1);clear k1 hx
 obtain⟨n1,⟨A1,k1,c1,l1⟩,t1⟩:=x
 unfold Sh.enc
 dsimp only at HK ⊢
 go_wp2_with (first|(refine wpList_ast HK rfl rfl ?_;intro _ g1 HK';simp only[lnA,List.append_nil] at HK';replace HK:=HK';clear HK')|(refine wpList_sst HK 0 rfl _ _ rfl rfl rfl rfl ?_;intro _ HK';simp only[List.set] at HK';replace HK:=HK';clear HK'))
 refine(HD2.out _).mono ?_;rintro e w1 ⟨x,hx,rfl,k1⟩;replace HK:=zH (HK.out.join k1);clear k1
 obtain⟨n2,⟨A2,k2,c2,l2⟩,t2⟩:=x
 obtain rfl:n2=0:=(Sh.nz hx).1
 clear hx
 unfold Sh.enc
 simp only[List.append_nil] at HK
 dsimp only at HK ⊢
 go_wp2_with (first|(refine wpList_ast HK rfl rfl ?_;intro _ g2 HK';simp only[lcA,lnA] at HK';replace HK:=HK';clear HK')|(refine wpList_sst HK 1 rfl _ _ rfl rfl rfl rfl ?_;intro _ HK';simp only[List.set] at HK';replace HK:=HK';clear HK')|refine zX (kst_n HK 1 _ (by rfl) (by rfl) (by rfl)) ?_)
 go_ret
 exact⟨rfl,HK.out.b⟩
end
section
open Go.RowKit
namespace Snp
structure Q{α:Type}(p:P α)(l:Its)(a:Nat)(b:Bool)(x:α)(a':Nat)(b':Bool):Prop where
 good:b'=false→b=false∧p (l.drop a)=some (x,l.drop a')∧a'≤l.length
 bad:b=false→¬p (l.drop a)=none→b'=false
theorem Q.ret{α:Type}(x:α){l:Its}{a:Nat}{b:Bool}(h:b=false→a≤l.length):Q (ret x) l a b x a b:=⟨fun e=>⟨e,rfl,h e⟩,fun e _=>e⟩
theorem Q.bnd{α β:Type}{p:P α}{f:α→P β}{l:Its}{a a1 a2:Nat}{b b1 b2:Bool}{x:α}{y:β}(h:Q p l a b x a1 b1)(k:Q (f x) l a1 b1 y a2 b2):Q (bnd p f) l a b y a2 b2:=by
 refine⟨fun e=>?_,fun e hn=>?_⟩
 ·obtain⟨e1,k1,k2⟩:=k.good e
  obtain⟨e0,h1,h2⟩:=h.good e1
  exact⟨e0,(bnd_of h1).trans k1,k2⟩
 ·have hp:¬p (l.drop a)=none:=fun q=>hn (by unfold Snp.bnd;rw[q])
  have e1:=h.bad e hp
  obtain⟨_,h1,_⟩:=h.good e1
  exact k.bad e1 fun q=>hn ((bnd_of h1).trans q)
theorem Q.le{α:Type}{p:P α}{l:Its}{a a':Nat}{b b':Bool}{x:α}(h:Q p l a b x a' b')(e:b'=false):a'≤l.length:=(h.good e).2.2
theorem Q.to{α:Type}{p q:P α}{l:Its}{a a':Nat}{b b':Bool}{x:α}(h:Q p l a b x a' b')(e:p (l.drop a)=q (l.drop a)):Q q l a b x a' b':=⟨fun k=>by rw[← e];exact h.good k,fun k n=>h.bad k (by rw[e];exact n)⟩
theorem Q.map{α β:Type}{p:P α}{l:Its}{a a':Nat}{b b':Bool}{x:α}(h:Q p l a b x a' b')(f:α→β):Q (Snp.bnd p fun x=>Snp.ret (f x)) l a b (f x) a' b':=h.bnd (Q.ret _ h.le)
def gi(l:Its)(a:Nat):Int×Bool:=match l[a]? with
 | some x=>if x.k=0 then (x.n,true) else (0,false)
 | none=>(0,false)
def gt(l:Its)(a:Nat):ByteArray×Bool:=match l[a]? with
 | some x=>if x.k=1 then (x.s,true) else (⟨#[]⟩,false)
 | none=>(⟨#[]⟩,false)
theorem drop_at{l:Its}{a:Nat}{x:Itm.It}(h:l[a]?=some x):l.drop a=x::l.drop (a+1):=by
 obtain⟨h1,h2⟩:=List.getElem?_eq_some_iff.1 h
 rw[List.drop_eq_getElem_cons h1,h2]
theorem drop_no{l:Its}{a:Nat}(h:l[a]?=none):l.drop a=[]:=List.drop_eq_nil_of_le (List.getElem?_eq_none_iff.1 h)
theorem Q.num(l:Its)(a:Nat)(b:Bool):Q num l a b (gi l a).1 (a+1) (b || !(gi l a).2):=by
 cases h:l[a]? with
 | none=>
  have e:gi l a=(0,false):=by unfold gi;rw[h]
  rw[e]
  refine⟨fun k=>by simp at k,fun k n=>absurd ?_ n⟩
  rw[drop_no h];rfl
 | some x=>
  have hl:=(List.getElem?_eq_some_iff.1 h).1
  by_cases hk:x.k=0
  ·have e:gi l a=(x.n,true):=by unfold gi;rw[h];exact if_pos hk
   rw[e]
   refine⟨fun k=>⟨by simpa using k,?_,hl⟩,fun k _=>by simp[k]⟩
   rw[drop_at h]
   exact if_pos hk
  ·have e:gi l a=(0,false):=by unfold gi;rw[h];exact if_neg hk
   rw[e]
   refine⟨fun k=>by simp at k,fun k n=>absurd ?_ n⟩
   rw[drop_at h]
   exact if_neg hk
theorem Q.txt(l:Its)(a:Nat)(b:Bool):Q txt l a b (gt l a).1 (a+1) (b || !(gt l a).2):=by
 cases h:l[a]? with
 | none=>
  have e:gt l a=(⟨#[]⟩,false):=by unfold gt;rw[h]
  rw[e]
  refine⟨fun k=>by simp at k,fun k n=>absurd ?_ n⟩
  rw[drop_no h];rfl
 | some x=>
  have hl:=(List.getElem?_eq_some_iff.1 h).1
  by_cases hk:x.k=1
  ·have e:gt l a=(x.s,true):=by unfold gt;rw[h];exact if_pos hk
   rw[e]
   refine⟨fun k=>⟨by simpa using k,?_,hl⟩,fun k _=>by simp[k]⟩
   rw[drop_at h]
   exact if_pos hk
  ·have e:gt l a=(⟨#[]⟩,false):=by unfold gt;rw[h];exact if_neg hk
   rw[e]
   refine⟨fun k=>by simp at k,fun k n=>absurd ?_ n⟩
   rw[drop_at h]
   exact if_neg hk
def cnt(m:Int):P Nat:=bnd num fun n=>if n<0∨m<n then fun _=>none else ret n.toNat
theorem lst_cnt{α:Type}(m:Int)(p:P α):lst true m p=bnd (cnt m) (rep p):=by
 funext l
 cases h:num l with
 | none=>exact(bnd_none h).trans (bnd_none (bnd_none h)).symm
 | some z=>
  obtain⟨n,r⟩:=z
  have e1:lst true m p l=(if n<0∨(true=true∧m<n) then fun _=>none else rep p n.toNat) r:=bnd_of h
  have e2:cnt m l=(if n<0∨m<n then fun _=>none else ret n.toNat) r:=bnd_of h
  by_cases hn:n<0∨m<n
  ·rw[if_pos (hn.imp_right fun h=>⟨rfl,h⟩)] at e1
   rw[if_pos hn] at e2
   rw[e1,bnd_none e2]
  ·rw[if_neg (fun h=>hn (h.imp_right fun h=>h.2))] at e1
   rw[if_neg hn] at e2
   rw[e1,bnd_of (show cnt m l=some (n.toNat,r) from e2)]
theorem flag_cnt:flag=bnd (cnt 1) fun n=>ret (decide (n=1)):=by
 funext l
 cases h:num l with
 | none=>exact(bnd_none h).trans (bnd_none (bnd_none h)).symm
 | some z=>
  obtain⟨n,r⟩:=z
  have e1:flag l=(if n=0∨n=1 then ret (decide (n=1)) else fun _=>none) r:=bnd_of h
  have e2:cnt 1 l=(if n<0∨1<n then fun _=>none else ret n.toNat) r:=bnd_of h
  by_cases h0:n=0
  ·subst h0
   rw[e1,bnd_of (show cnt 1 l=some (0,r) from e2)]
   rfl
  by_cases h1:n=1
  ·subst h1
   rw[e1,bnd_of (show cnt 1 l=some (1,r) from e2)]
   rfl
  ·rw[if_neg (by omega)] at e1
   rw[if_pos (by omega)] at e2
   rw[e1,bnd_none e2]
theorem rep_snoc{α:Type}(p:P α):∀(n:Nat) (l:Its),rep p (n+1) l=bnd (rep p n) (fun xs=>bnd p fun x=>ret (xs++[x])) l
 | 0,l=>by
  show bnd p (fun x=>bnd (rep p 0) fun l=>ret (x::l)) l=bnd p (fun x=>ret ([]++[x])) l
  unfold bnd
  cases h:p l<;>rfl
 | n+1,l=>by
  show bnd p (fun x=>bnd (rep p (n+1)) fun l=>ret (x::l)) l=bnd (bnd p (fun x=>bnd (rep p n) fun l=>ret (x::l))) (fun xs=>bnd p fun x=>ret (xs++[x])) l
  cases h:p l with
  | none=>unfold bnd;simp only[h]
  | some z=>
   obtain⟨x,r⟩:=z
   have ih:=rep_snoc p n r
   unfold bnd at ih ⊢
   simp only[h,ih]
   cases h2:rep p n r with
   | none=>rfl
   | some z2=>
    obtain⟨ys,r2⟩:=z2
    simp only[ret]
    cases h3:p r2 with
    | none=>rfl
    | some z3=>rfl
theorem Q.more{α:Type}{p:P α}{l:Its}{a a1 a2 i:Nat}{b b1 b2:Bool}{xs:List α}{x:α}(h:Q (rep p i) l a b xs a1 b1)(k:Q p l a1 b1 x a2 b2):Q (rep p (i+1)) l a b (xs++[x]) a2 b2:=
 (h.bnd (k.map fun x=>xs++[x])).to (rep_snoc p i _).symm
theorem rep_none{α:Type}{p:P α}{i:Nat}:∀(n:Nat) {l:Its},rep p i l=none→i≤n→rep p n l=none
 | 0,l,h,hi=>by
  obtain rfl:i=0:=by omega
  exact h
 | n+1,l,h,hi=>by
  by_cases e:i=n+1
  ·rw[← e];exact h
  ·rw[rep_snoc]
   unfold bnd
   rw[rep_none n h (by omega)]
theorem Q.stop{α:Type}{p:P α}{l:Its}{a a1 i n:Nat}{b:Bool}{xs:List α}(h:Q (rep p i) l a b xs a1 true)(hi:i≤n):Q (rep p n) l a b xs a1 true:=
 ⟨(fun e=>by cases e),fun e hn=>h.bad e fun q=>hn (rep_none n q hi)⟩
end Snp
def rfB(A:Option Addr)(n c a:Nat)(b:Bool):Array Value:=#[.slice A n c,.int .i64 (a:Int),.bool b]
structure Rdf(g:Nat)(A:Option Addr)(n c:Nat)(l:Snp.Its)(a:Nat)(b:Bool)(w:World):Prop where
 kb:Blk w g 96 (rfB A n c a b)
 rd:itemLay.Reads w g A l
 ln:l.length=n
 nl:A=none→l=[]
 cp:n≤c
 sh:n≤16384
theorem Rdf.keep{g:Nat}{A:Option Addr}{n c:Nat}{l:Snp.Its}{a a':Nat}{b b':Bool}{w w':World}(h:Rdf g A n c l a b w)(hb:∀k,k<g→w'.heap[k]?=w.heap[k]?)(hk:Blk w' g 96 (rfB A n c a' b')):Rdf g A n c l a' b' w':=
 ⟨hk,h.rd.keep fun p hp=>World.cell?_of_block (hb p.block hp),h.ln,h.nl,h.cp,h.sh⟩
section
variable {b0:Nat}{w0 w w' W0 wc w1:World}{L:List (Nat×TypeId×Array Value)}{R Rn:List RowE}{g:Nat}{A:Option Addr}{n c a a':Nat}{b b':Bool}{l:Snp.Its}
theorem Rdf.below(h:Rdf g A n c l a b w){B:Nat}(hb:Below B w w')(hg:g<B):Rdf g A n c l a b w':=h.keep (fun k hk=>hb.block k (by omega)) (h.kb.below hb hg)
def Rsf(g:Nat)(A:Option Addr)(n c:Nat)(l:Snp.Its)(a:Nat)(b:Bool)(w W0:World):Prop:=But g w W0∧Rdf g A n c l a b W0
theorem Rsf.start(h:Rdf g A n c l a b w):Rsf g A n c l a b w w:=⟨But.refl g w,h⟩
theorem Rsf.lt(h:Rsf g A n c l a b w W0):g<w.heap.size:=by
 have:=h.2.kb.lt
 rw[h.1.size] at this
 exact this
theorem Rsf.at(h:Rsf g A n c l a b w W0)(k:Kn w.heap.size W0 wc L R):Rdf g A n c l a b wc:=h.2.below k.b h.lt
def Rof(g:Nat)(A:Option Addr)(n c:Nat)(l:Snp.Its)(a:Nat)(b:Bool)(Rn:List RowE)(w w':World):Prop:=∃W1,Rsf g A n c l a b w W1∧Kn w.heap.size W1 w' [] Rn
theorem Rof.mk(h:Rsf g A n c l a b w W0)(k:Kn w.heap.size W0 w' L R):Rof g A n c l a b R w w':=⟨W0,h,k.takeL 0⟩
theorem Rof.join(h:Rsf g A n c l a b w W0)(k:Kn w.heap.size W0 wc L R)(q:Rof g A n c l a' b' Rn wc w1):∃W1,Hid (Rsf g A n c l a' b' w W1)∧Hid (Kn w.heap.size W1 w1 L (R++Rn)):=by
 obtain⟨V,⟨vb,vr⟩,kv⟩:=q
 have hg:g<w.heap.size:=h.lt
 have hm:=k.m
 have hV:g<V.heap.size:=vr.kb.lt
 refine⟨{ w with heap:=w.heap.setIfInBounds g V.heap[g] },?_⟩
 have hz:(w.heap.setIfInBounds g V.heap[g]).size=w.heap.size:=by simp
 have hsame:∀i,i<w.heap.size→(w.heap.setIfInBounds g V.heap[g])[i]?=V.heap[i]?:=fun i hi=>by
  by_cases e:i=g
  ·subst e
   rw[Array.getElem?_setIfInBounds_self_of_lt hg,Array.getElem?_eq_getElem hV]
  ·rw[Array.getElem?_setIfInBounds_ne (fun q=>e q.symm),vb.block i e,k.b.block i hi,h.1.block i e]
 have hbut:But g w { w with heap:=w.heap.setIfInBounds g V.heap[g] }:=⟨rfl,rfl,rfl,hz,fun i hi=>by
  show(w.heap.setIfInBounds g V.heap[g])[i]?=_
  rw[Array.getElem?_setIfInBounds_ne (fun q=>hi q.symm)]⟩
 have hbel:Below w.heap.size { w with heap:=w.heap.setIfInBounds g V.heap[g] } V:=
  ⟨vb.os.trans (k.b.os.trans h.1.os),vb.tape.trans (k.b.tape.trans h.1.tape),vb.output.trans (k.b.output.trans h.1.output),by show(w.heap.setIfInBounds g V.heap[g]).size≤_;rw[hz,vb.size];exact hm,fun i hi=>(hsame i hi).symm⟩
 have kn:Kn w.heap.size { w with heap:=w.heap.setIfInBounds g V.heap[g] } V L R:=k.other hbel vb.size fun i hi=>vb.block i (by omega)
 refine⟨zH ⟨hbut,vr.keep (fun i hi=>hsame i (by omega)) (Eq.trans (hsame g hg) vr.kb)⟩,zH (kn.join ?_)⟩
 rw[vb.size]
 exact kv
end
def Rq{α:Type}(p:Snp.P α)(K:Nat)(enc:α→Value)(g:Nat)(A:Option Addr)(n c:Nat)(l:Snp.Its)(a:Nat)(b:Bool)(w:World)(e:Ending)(w':World):Prop:=
 ∃(x:α) (a':Nat) (b':Bool),e=.returned (enc x)∧Snp.Q p l a b x a' b'∧a'≤a+K∧Rof g A n c l a' b' [] w w'
theorem kwp_srf{w W0 wc:World}{L:List (Nat×TypeId×Array Value)}{R:List RowE}{g n c a a':Nat}{b b':Bool}{A:Option Addr}{l:Snp.Its}{o:Oper}{ac:Act}{Q:Exit→Act→World→Prop}{K:Act→World→Prop}(HW:Hid (Rsf g A n c l a b w W0))(HK:Hid (Kn w.heap.size W0 wc L R))(ty:TypeId)(i:Nat)(v:Value)(p q:Operand)(ho:o.op=.store ty p q)(hx:ac.eval p=.pointer (some ⟨g,i,none⟩))(hy:ac.eval q=v)(hc:v.cells=#[v])(h1:v.oneCell'=true)(hi:i<3)(hinf:(Tryz.prog.info? ty).map (·.size)=some 1)
  (hn:(rfB A n c a b).setIfInBounds i v=rfB A n c a' b')
  (h:∀W1 w',Hid (Rsf g A n c l a' b' w W1)→Hid (Kn w.heap.size W1 w' L R)→K (ac.put o.dst undef) w'):o.wp Tryz.prog ac wc K Q:=by
 have hb0:=HW.out.2.kb
 have hg:=HW.out.lt
 have hbc:Blk wc g 96 (rfB A n c a b):=hb0.below HK.out.b hg
 have hk1:Hid (Kn g wc wc [(g,96,rfB A n c a b)] []):=zH ⟨Below.refl _ _,Nat.le_of_lt hbc.lt,fun i x hx=>by
  match i,hx with
  | 0,hx=>cases hx;exact⟨Nat.le_refl _,hbc⟩,fun i y hy=>by simp at hy,fun i j x y hx hy hij=>by
  match i,j,hx,hy with
  | 0,0,_,_=>exact absurd rfl hij,fun i j x y _ hy=>by simp at hy,fun i j x y hx=>by simp at hx⟩
 refine kwp_scw hk1 ty p q ho 0 rfl hx hy hc h1 (by show i<3;exact hi) hinf ?_
 have hfar:∀k,¬k=g→(wc.setCell ⟨g,i,none⟩ v).heap[k]?=wc.heap[k]?:=fun k hk=>Below.heap_setCell _ _ _ k hk
 have hfar0:∀k,¬k=g→(W0.setCell ⟨g,i,none⟩ v).heap[k]?=W0.heap[k]?:=fun k hk=>Below.heap_setCell _ _ _ k hk
 have hz:(wc.setCell ⟨g,i,none⟩ v).heap.size=wc.heap.size:=by simp[World.setCell]
 have hz0:(W0.setCell ⟨g,i,none⟩ v).heap.size=W0.heap.size:=by simp[World.setCell]
 have hb1:Blk (wc.setCell ⟨g,i,none⟩ v) g 96 (rfB A n c a' b'):=by rw[← hn];exact hbc.set_ i _
 have hb2:Blk (W0.setCell ⟨g,i,none⟩ v) g 96 (rfB A n c a' b'):=by rw[← hn];exact hb0.set_ i _
 have hbel:Below w.heap.size (W0.setCell ⟨g,i,none⟩ v) (wc.setCell ⟨g,i,none⟩ v):=⟨HK.out.b.os,HK.out.b.tape,HK.out.b.output,by rw[hz,hz0];exact HK.out.b.size,fun k hk=>by
  by_cases e:k=g
  ·subst e
   exact Eq.trans hb1 (Eq.symm hb2)
  ·rw[hfar k e,hfar0 k e]
   exact HK.out.b.block k hk⟩
 exact h (W0.setCell ⟨g,i,none⟩ v) _ (zH ⟨⟨HW.out.1.os,HW.out.1.tape,HW.out.1.output,hz0.trans HW.out.1.size,fun k hk=>(hfar0 k hk).trans (HW.out.1.block k hk)⟩,HW.out.2.keep (fun k hk=>hfar0 k (by omega)) hb2⟩) (zH (HK.out.other hbel hz fun k hk=>hfar k (by omega)))
theorem info_bo1:(Tryz.prog.info? 4).map (·.size)=some 1:=by kernel_rfl
section
variable {w W0 wc:World}{L:List (Nat×TypeId×Array Value)}{R:List RowE}{g n c a a':Nat}{b b':Bool}{A:Option Addr}{l:Snp.Its}{ops:Array Oper}{rest:List Oper}{o:Oper}{ac:Act}{Q:Exit→Act→World→Prop}
theorem wpList_srfa(HW:Hid (Rsf g A n c l a b w W0))(HK:Hid (Kn w.heap.size W0 wc L R))(hgd:o.guard=none)(p q:Operand)(ho:o.op=.store 3 p q)(hx:ac.eval p=.pointer (some ⟨g,1,none⟩))(hy:ac.eval q=.int .i64 (a':Int))
  (h:∀W1 w',Hid (Rsf g A n c l a' b w W1)→Hid (Kn w.heap.size W1 w' L R)→wpList Tryz.prog ops Q rest (ac.put o.dst undef) w'):wpList Tryz.prog ops Q (o::rest) ac wc:=
 wpList_plain hgd fun K hK=>kwp_srf HW HK 3 1 _ p q ho hx hy rfl rfl (by decide) info_i1 rfl fun W1 w' h1 h2=>hK _ _ (h W1 w' h1 h2)
theorem wpList_srfb(HW:Hid (Rsf g A n c l a b w W0))(HK:Hid (Kn w.heap.size W0 wc L R))(hgd:o.guard=none)(p q:Operand)(ho:o.op=.store 4 p q)(hx:ac.eval p=.pointer (some ⟨g,2,none⟩))(hy:ac.eval q=.bool b')
  (h:∀W1 w',Hid (Rsf g A n c l a b' w W1)→Hid (Kn w.heap.size W1 w' L R)→wpList Tryz.prog ops Q rest (ac.put o.dst undef) w'):wpList Tryz.prog ops Q (o::rest) ac wc:=
 wpList_plain hgd fun K hK=>kwp_srf HW HK 4 2 _ p q ho hx hy rfl rfl (by decide) info_bo1 rfl fun W1 w' h1 h2=>hK _ _ (h W1 w' h1 h2)
theorem exec_rfs(HW:Hid (Rsf g A n c l a b w W0))(HK:Hid (Kn w.heap.size W0 wc L R))(p:Operand)(ho:o.op=.load 84 p)(hx:ac.eval p=.pointer (some ⟨g,0,none⟩)):(execOp ac.eval o).run Tryz.prog wc=.ok (.value (.slice A n c)) wc:=
 exec_cell p ho hx ((HW.out.at HK.out).kb.cell 0) Tryz.underlying84 rfl
theorem exec_rfa(HW:Hid (Rsf g A n c l a b w W0))(HK:Hid (Kn w.heap.size W0 wc L R))(p:Operand)(ho:o.op=.load 3 p)(hx:ac.eval p=.pointer (some ⟨g,1,none⟩)):(execOp ac.eval o).run Tryz.prog wc=.ok (.value (.int .i64 (a:Int))) wc:=
 exec_cell p ho hx ((HW.out.at HK.out).kb.cell 1) Tryz.underlying3 rfl
theorem exec_rfb(HW:Hid (Rsf g A n c l a b w W0))(HK:Hid (Kn w.heap.size W0 wc L R))(p:Operand)(ho:o.op=.load 4 p)(hx:ac.eval p=.pointer (some ⟨g,2,none⟩)):(execOp ac.eval o).run Tryz.prog wc=.ok (.value (.bool b)) wc:=
 exec_cell p ho hx ((HW.out.at HK.out).kb.cell 2) Tryz.underlying4 rfl
end
end
section
namespace Snp
theorem gi_yes{l:Its}{a:Nat}{k:Int}(h:gi l a=(k,true)):∃x,l[a]?=some x∧x.k=0∧x.n=k∧a<l.length:=by
 unfold gi at h
 split at h
 ·next x hx=>
  split at h
  ·next hk=>
   cases h
   exact⟨x,hx,hk,rfl,(List.getElem?_eq_some_iff.1 hx).1⟩
  ·cases h
 ·cases h
theorem gt_yes{l:Its}{a:Nat}{s:ByteArray}(h:gt l a=(s,true)):∃x,l[a]?=some x∧x.k=1∧x.s=s∧a<l.length:=by
 unfold gt at h
 split at h
 ·next x hx=>
  split at h
  ·next hk=>
   cases h
   exact⟨x,hx,hk,rfl,(List.getElem?_eq_some_iff.1 hx).1⟩
  ·cases h
 ·cases h
theorem gi_no{l:Its}{a:Nat}(h:(gi l a).2=false)(y:Itm.It)(t:Its)(e:l.drop a=y::t):¬y.k=0:=fun hk=>by
 have hx:l[a]?=some y:=by
  have:=congrArg (fun l=>l[0]?) e
  simpa using this
 unfold gi at h
 rw[hx] at h
 simp only[if_pos hk] at h
 cases h
theorem gt_no{l:Its}{a:Nat}(h:(gt l a).2=false)(y:Itm.It)(t:Its)(e:l.drop a=y::t):¬y.k=1:=fun hk=>by
 have hx:l[a]?=some y:=by
  have:=congrArg (fun l=>l[0]?) e
  simpa using this
 unfold gt at h
 rw[hx] at h
 simp only[if_pos hk] at h
 cases h
theorem gi_at{l:Its}{a:Nat}{k:Int}(hf:Fit l)(h:gi l a=(k,true)):l.drop a=n1 k::l.drop (a+1)∧a<l.length:=by
 obtain⟨x,hx,h1,h2,h3⟩:=gi_yes h
 have hfi:=hf x (List.mem_of_getElem? hx)
 refine⟨?_,h3⟩
 rw[drop_at hx]
 obtain⟨xk,xn,xs⟩:=x
 simp only at h1 h2
 subst h1 h2
 have:xs=Val.emp:=hfi.1 rfl
 rw[this]
 rfl
theorem gt_at{l:Its}{a:Nat}{s:ByteArray}(hf:Fit l)(h:gt l a=(s,true)):l.drop a=t1 s::l.drop (a+1)∧a<l.length:=by
 obtain⟨x,hx,h1,h2,h3⟩:=gt_yes h
 have hfi:=hf x (List.mem_of_getElem? hx)
 refine⟨?_,h3⟩
 rw[drop_at hx]
 obtain⟨xk,xn,xs⟩:=x
 simp only at h1 h2
 subst h1 h2
 have:xn=0:=hfi.2.1 rfl
 rw[this]
 rfl
theorem val_no{l:Its}{a:Nat}(hf:Fit l)(h:∀v t,vG v→l.drop a=Val.items v++t→False):val (l.drop a)=none:=by
 cases e:val (l.drop a) with
 | none=>rfl
 | some z=>
  obtain⟨v,t⟩:=z
  obtain⟨h1,h2⟩:=val_snd _ _ _ (fun x hx=>hf x (List.mem_of_mem_drop hx)) e
  exact(h v t h2 h1).elim
theorem items_to{v:Val.V}(h:vG v):(v=⟨0,0,0,Val.emp⟩∧Val.items v=[n1 0])∨(v=⟨1,v.n,0,Val.emp⟩∧Val.items v=[n1 1,n1 v.n])∨(v=⟨2,0,v.f,Val.emp⟩∧Val.items v=[n1 2,n1 (Val.sg v.f)])∨(v=⟨3,0,0,v.s⟩∧Val.items v=[n1 3,t1 v.s]):=by
 rcases Val.chk_ok h.1 with e|e|⟨e,_⟩|⟨e,_⟩
 ·left;refine⟨e,?_⟩;rw[e];rfl
 ·right;left;refine⟨e,?_⟩;rw[e];rfl
 ·right;right;left;refine⟨e,?_⟩;rw[e];rfl
 ·right;right;right;refine⟨e,?_⟩;rw[e];rfl
theorem chk_num(m:Int):Val.chk ⟨1,m,0,Val.emp⟩=0:=Val.chk_int m
theorem head_k{k j:Int}{t u:Its}(h:n1 k::t=n1 j::u):k=j∧t=u:=by
 injection h with h1 h2
 injection h1 with _ h3
 exact⟨h3,h2⟩
inductive At(l:Its)(a:Nat):Prop where
 | none (h:(gi l a).2=false) (v:val (l.drop a)=Option.none)
 | kind (k:Int) (h:gi l a=(k,true)) (hk:k<0∨3<k) (v:val (l.drop a)=Option.none)
 | zero (h:gi l a=(0,true)) (v:val (l.drop a)=some (⟨0,0,0,Val.emp⟩,l.drop (a+1))) (hl:a+1≤l.length)
 | int0 (h:gi l a=(1,true)) (h2:(gi l (a+1)).2=false) (v:val (l.drop a)=Option.none)
 | int (m:Int) (h:gi l a=(1,true)) (h2:gi l (a+1)=(m,true)) (v:val (l.drop a)=some (⟨1,m,0,Val.emp⟩,l.drop (a+2))) (hl:a+2≤l.length)
 | flo0 (h:gi l a=(2,true)) (h2:(gi l (a+1)).2=false) (v:val (l.drop a)=Option.none)
 | flo1 (m:Int) (h:gi l a=(2,true)) (h2:gi l (a+1)=(m,true)) (hc:¬Val.chk ⟨2,0,Val.us m,Val.emp⟩=0) (v:val (l.drop a)=Option.none)
 | flo (m:Int) (h:gi l a=(2,true)) (h2:gi l (a+1)=(m,true)) (hc:Val.chk ⟨2,0,Val.us m,Val.emp⟩=0) (v:val (l.drop a)=some (⟨2,0,Val.us m,Val.emp⟩,l.drop (a+2))) (hl:a+2≤l.length)
 | txt0 (h:gi l a=(3,true)) (h2:(gt l (a+1)).2=false) (v:val (l.drop a)=Option.none)
 | txt1 (s:ByteArray) (h:gi l a=(3,true)) (h2:gt l (a+1)=(s,true)) (hc:¬Val.chk ⟨3,0,0,s⟩=0) (v:val (l.drop a)=Option.none)
 | txt (s:ByteArray) (h:gi l a=(3,true)) (h2:gt l (a+1)=(s,true)) (hc:Val.chk ⟨3,0,0,s⟩=0) (v:val (l.drop a)=some (⟨3,0,0,s⟩,l.drop (a+2))) (hl:a+2≤l.length)
theorem us_in(m:Int):Val.us m<18446744073709551616:=by unfold Val.us;omega
theorem at_any{l:Its}(hf:Fit l)(a:Nat):At l a:=by
 cases hg:gi l a with
 | mk k ok=>
 cases ok with
 | false=>
  have h2:(gi l a).2=false:=by rw[hg]
  refine .none h2 (val_no hf fun v t hv e=>?_)
  rcases items_to hv with ⟨_,i⟩|⟨_,i⟩|⟨_,i⟩|⟨_,i⟩<;>rw[i] at e<;>exact gi_no h2 _ _ e rfl
 | true=>
 obtain⟨d1,l1⟩:=gi_at hf hg
 by_cases hk:k<0∨3<k
 ·refine .kind k hg hk (val_no hf fun v t hv e=>?_)
  rw[d1] at e
  rcases items_to hv with ⟨_,i⟩|⟨_,i⟩|⟨_,i⟩|⟨_,i⟩<;>rw[i] at e<;>have:=(head_k e).1<;>omega
 have hk4:k=0∨k=1∨k=2∨k=3:=by omega
 clear hk
 rcases hk4 with rfl|rfl|rfl|rfl
 ·refine .zero hg ?_ l1
  rw[d1]
  exact val_cpl (v:=⟨0,0,0,Val.emp⟩) ⟨Val.chk_none,by decide⟩ _
 ·cases hg2:gi l (a+1) with
  | mk m ok2=>
  cases ok2 with
  | false=>
   have h2:(gi l (a+1)).2=false:=by rw[hg2]
   refine .int0 hg h2 (val_no hf fun v t hv e=>?_)
   rw[d1] at e
   rcases items_to hv with ⟨_,i⟩|⟨_,i⟩|⟨_,i⟩|⟨_,i⟩<;>rw[i] at e
   ·have:=(head_k e).1;omega
   ·exact gi_no h2 _ _ (head_k e).2 rfl
   ·have:=(head_k e).1;omega
   ·have:=(head_k e).1;omega
  | true=>
   obtain⟨d2,l2⟩:=gi_at hf hg2
   refine .int m hg hg2 ?_ l2
   rw[d1,d2]
   exact val_cpl (v:=⟨1,m,0,Val.emp⟩) ⟨chk_num m,by show(0:Nat)<18446744073709551616;decide⟩ _
 ·cases hg2:gi l (a+1) with
  | mk m ok2=>
  cases ok2 with
  | false=>
   have h2:(gi l (a+1)).2=false:=by rw[hg2]
   refine .flo0 hg h2 (val_no hf fun v t hv e=>?_)
   rw[d1] at e
   rcases items_to hv with ⟨_,i⟩|⟨_,i⟩|⟨_,i⟩|⟨_,i⟩<;>rw[i] at e
   ·have:=(head_k e).1;omega
   ·have:=(head_k e).1;omega
   ·exact gi_no h2 _ _ (head_k e).2 rfl
   ·have:=(head_k e).1;omega
  | true=>
   obtain⟨d2,l2⟩:=gi_at hf hg2
   obtain⟨x,hx,_,hxn,_⟩:=gi_yes hg2
   have hr:=(hf x (List.mem_of_getElem? hx)).2.2
   rw[hxn] at hr
   by_cases hc:Val.chk ⟨2,0,Val.us m,Val.emp⟩=0
   ·refine .flo m hg hg2 hc ?_ l2
    rw[d1,d2,← sg_us hr.1 hr.2]
    have h:=val_cpl (v:=⟨2,0,Val.us m,Val.emp⟩) ⟨hc,us_in m⟩ (l.drop (a+2))
    rw[sg_us hr.1 hr.2]
    rw[show Val.items ⟨2,0,Val.us m,Val.emp⟩=[n1 2,n1 (Val.sg (Val.us m))] from rfl,sg_us hr.1 hr.2] at h
    exact h
   ·refine .flo1 m hg hg2 hc (val_no hf fun v t hv e=>?_)
    rw[d1,d2] at e
    rcases items_to hv with ⟨_,i⟩|⟨_,i⟩|⟨ev,i⟩|⟨_,i⟩<;>rw[i] at e
    ·have:=(head_k e).1;omega
    ·have:=(head_k e).1;omega
    ·have h3:m=Val.sg v.f:=(head_k (head_k e).2).1
     apply hc
     rw[h3,Val.us_sg hv.2,← ev]
     exact hv.1
    ·have:=(head_k e).1;omega
 ·cases hg2:gt l (a+1) with
  | mk s ok2=>
  cases ok2 with
  | false=>
   have h2:(gt l (a+1)).2=false:=by rw[hg2]
   refine .txt0 hg h2 (val_no hf fun v t hv e=>?_)
   rw[d1] at e
   rcases items_to hv with ⟨_,i⟩|⟨_,i⟩|⟨_,i⟩|⟨_,i⟩<;>rw[i] at e
   ·have:=(head_k e).1;omega
   ·have:=(head_k e).1;omega
   ·have:=(head_k e).1;omega
   ·exact gt_no h2 _ _ (head_k e).2 rfl
  | true=>
   obtain⟨d2,l2⟩:=gt_at hf hg2
   by_cases hc:Val.chk ⟨3,0,0,s⟩=0
   ·refine .txt s hg hg2 hc ?_ l2
    rw[d1,d2]
    exact val_cpl (v:=⟨3,0,0,s⟩) ⟨hc,by show(0:Nat)<18446744073709551616;decide⟩ _
   ·refine .txt1 s hg hg2 hc (val_no hf fun v t hv e=>?_)
    rw[d1,d2] at e
    rcases items_to hv with ⟨_,i⟩|⟨_,i⟩|⟨_,i⟩|⟨ev,i⟩<;>rw[i] at e
    ·have:=(head_k e).1;omega
    ·have:=(head_k e).1;omega
    ·have:=(head_k e).1;omega
    ·have h3:=(head_k e).2
     injection h3 with h3 _
     injection h3 with _ _ h3
     apply hc
     rw[h3,← ev]
     exact hv.1
end Snp
end
end Go.Proofs.YtieoeendnccafaaGreat
