/- What the law's awake returns. No condition but those named. -/
import Derived.Test.YtieoeendnccafaaNTK
import Derived.Test.YtieoeendnccafaaNBE
import Derived.Test.YtieoeendnccafaaWireDecode
import Derived.Test.YtieoeendnccafaaApRight
import Derived.Test.YtieoeendnccafaaNBC
set_option linter.unusedSimpArgs false
set_option linter.unusedVariables false
set_option maxRecDepth 100000
set_option maxHeartbeats 25600000
namespace Go.Proofs.Ytieoeendnccafaa
section
open Go.RowKit
theorem wire_len:∀l:List Wire.It,l.length≤(Wire.all l).length
 | []=>Nat.zero_le _
 | x::t=>by
  have h1:=Wire.one_pos x
  have h2:=wire_len t
  rw[Wire.all_cons,List.length_append,List.length_cons]
  omega
theorem its_own{base:Nat}{w:World}{v:Value}{l:List Wire.It}(h:Its base w v l):itemLay.Own base w v (l.map Snp.ofW):=by
 have e1:(l.map Snp.ofW).length=l.length:=List.length_map ..
 have e2:itemLay.flat (l.map Snp.ofW)=flat l:=by
  unfold Lay.flat flat
  rw[List.flatMap_map]
  rfl
 unfold Lay.Own
 rw[e1,e2]
 exact h
theorem Snp.flat_ge{α:Type}{f:α→Snp.Its}(h:∀x,1≤(f x).length):∀l:List α,l.length≤(l.flatMap f).length
 | []=>Nat.le_refl _
 | x::l=>by
  have:=flat_ge h l
  have:=h x
  rw[List.flatMap_cons,List.length_append,List.length_cons]
  omega
theorem Snp.flat_in{α:Type}{f:α→Snp.Its}{l:List α}{x:α}(h:x∈l):(f x).length≤(l.flatMap f).length:=by
 induction l with
 | nil=>cases h
 | cons y t ih=>
  rw[List.flatMap_cons,List.length_append]
  rcases List.mem_cons.1 h with rfl|h
  ·omega
  ·have:=ih h;omega
theorem Snp.many_ge{α:Type}{f:α→Snp.Its}(h:∀x,1≤(f x).length)(l:List α):l.length≤(Snp.many f l).length:=by
 have:=flat_ge h l
 unfold Snp.many
 rw[List.length_cons]
 omega
theorem Snp.st_fo{s:Ap.St}{c:Bool}(hf:Snp.Fit (Snp.stI s))(hg:Snp.stG c s)(hl:(Snp.stI s).length≤16384):s.l.length≤16384∧∀o∈s.l,Fo o:=by
 have hm:(Snp.many Snp.obI s.l).length≤16384:=by
  unfold Snp.stI at hl
  rw[List.length_cons,List.length_append] at hl
  omega
 have h1:∀o:Sto.Ob,1≤(Snp.obI o).length:=fun o=>by
  unfold Snp.obI
  rw[List.length_append]
  show 1≤4+_
  omega
 refine⟨Nat.le_trans (Snp.many_ge h1 s.l) hm,fun o ho=>?_⟩
 have hfl:(s.l.flatMap Snp.obI).length≤16384:=by
  unfold Snp.many at hm
  rw[List.length_cons] at hm
  omega
 have hol:(Snp.obI o).length≤16384:=Nat.le_trans (Snp.flat_in ho) hfl
 have q0:Snp.Fit (Snp.n1 s.n::(Snp.many Snp.obI s.l++Snp.tbI s.t)):=hf
 have q1:Snp.Fit (Snp.obI o):=(q0.cons.head.cons).of ho
 have q2:Snp.Fit (Snp.n1 o.kind::Snp.n1 o.cap::Snp.n1 o.round::(Snp.many Snp.prI o.prs++(Snp.many Val.items o.vals++(Snp.many Snp.rfI o.refs++Snp.mtI o.mt)))):=Snp.Fit.cons (x:=Snp.t1 o.name) q1
 have hd:=q2.cons.cons.rng
 have q3:=q2.cons.cons.cons.tail.tail.tail
 have hn : -9223372036854775808≤o.mt.n∧o.mt.n≤9223372036854775807:=Snp.Fit.rng (b:=[Snp.n1 (Val.sg o.mt.s),Snp.n1 (Val.sg o.mt.l),Snp.n1 (Val.sg o.mt.m)]) q3
 have g:=hg.l.2 o ho
 have k1:=Snp.many_ge (f:=Snp.prI) (fun p=>by unfold Snp.prI;rw[List.length_cons];omega) o.prs
 have k2:=Snp.many_ge (f:=Val.items) (fun v=>(nit_len v).1) o.vals
 have k3:=Snp.many_ge (f:=Snp.rfI) (fun v=>by show 1≤3;decide) o.refs
 unfold Snp.obI at hol
 simp only[List.length_append] at hol
 refine⟨⟨fun p hp=>(g.p.2 p hp).2,?_⟩,⟨fun v hv=>(g.v.2 v hv).2,?_⟩,⟨fun _ _=>trivial,?_⟩,⟨hn.2,g.m.1,g.m.2.1,g.m.2.2⟩,hd.2⟩
 ·show o.prs.length≤2513169434916
  omega
 ·show o.vals.length*40≤_
  omega
 ·show o.refs.length*24≤_
  omega
def IsDec(r:Ap.St×Int)(w:World)(e:Ending)(w':World):Prop:=∃x:Sh,x.v=r.1∧e=.returned (.tuple #[x.enc,.int .i64 r.2])∧Kn w.heap.size w w' [] (olRows x.q)
def shz:Sh:=⟨0,⟨none,0,0,[]⟩,tz⟩
theorem isDec_no{w w':World}{n:Int}(h:Below w.heap.size w w'):IsDec (Snp.stz,n) w (.returned (.tuple #[.agg (stA 0 none 0 0 tz),.int .i64 n])) w':=
 ⟨shz,rfl,rfl,((Kn.start w).call h).nilR obLay⟩
theorem ret_ce{f:Func}{Q:Ending→World→Prop}{a:Act}{w:World}{B:Nat}{n:Int}{A:Option Addr}{k c:Nat}{t:Ses.T}{u:Value}{q q2:Tmp}(hf:f.results=#[.cell q 33,.tmp q2])(h2:a.tmps[q]?=some (.pointer (some ⟨B,0,none⟩)))(h3:a.tmps[q2]?=some u)(hd:a.defers=[])(hb:Blk w B 33 (stA n A k c t))
  (hR:Q (.returned (.tuple #[.agg (stA n A k c t),u])) w):bodyPost Try.prog f Q Exit.ret a w:=ret_sto hf h2 h3 hd hb hR
theorem Sh.obs{b0:Nat}{w0 w:World}{L:List (Nat×TypeId×Array Value)}{R:List RowE}{x:Sh}{c:Bool}(k:Kn b0 w0 w L R)(hR:∀y∈olRows x.q,y∈R)(hf:Snp.Fit (Snp.stI x.v))(hg:Snp.stG c x.v)(hl:(Snp.stI x.v).length≤16384):Obs w x.q.A x.q.n x.q.c x.q.l∧Ses.Fit x.t:=by
 obtain⟨h1,h2⟩:=Snp.st_fo hf hg hl
 have hm:row obLay (.slice x.q.A x.q.n x.q.c) x.q.l∈R:=hR _ (List.mem_cons_self ..)
 have hn:=(k.mem hm).reads.1
 have h1':(vs x.q.l).length≤16384:=h1
 rw[vs_len] at h1'
 exact⟨k.obs hm (fun y hy=>hR y (List.mem_cons_of_mem _ hy)) h2 (by omega),(Snp.G_ft hg).t⟩
theorem rdecode2_any(b:ByteArray)(w:World)(hs:b.size≤140737488351232):Calls Try.prog 4 #[.string b] w (IsDec (Snp.D false b) w):=by
 have HD:Hid (∀W,Calls Try.prog 8 #[.string b] W fun e w'=>∃A n c,e=.returned (.tuple #[.slice A n c,.int .i64 (Wire.D b).2])∧itemLay.Own W.heap.size w' (.slice A n c) ((Wire.D b).1.map Snp.ofW)∧Below W.heap.size W w'):=zH fun W=>(decode_any b W hs).mono fun e w' h=>by
  obtain⟨v,h1,h2,h3⟩:=h
  have ho:=its_own h2
  obtain⟨A,c,rfl⟩:=ho.shape
  exact⟨A,_,c,h1,ho,h3⟩
 have HK:=zH (Kn.start w)
 by_cases hz:(Wire.D b).2=0
 case neg=>
  have HN:Hid (Snp.D false b=(Snp.stz,(Wire.D b).2)):=zH (if_neg hz)
  rw[HN.out]
  have hz2:((Wire.D b).2 != 0)=true:=by simpa using hz
  generalize (Wire.D b).2=z at *
  clear hz HN hs
  go_enter Try.func4,Try.ntmps4
  go_wp2_with (first|(refine wpList_ast HK rfl rfl ?_;intro _ g1 HK';simp only[lnA] at HK';replace HK:=HK';clear HK'))
  refine(HD.out _).mono ?_;rintro e w1 ⟨A,n,c,rfl,o1,b1⟩
  replace HK:=hkC HK b1
  clear o1 b1 HD
  go_wp2_with (first|refine wpList_exe (exec_bst0 (by rfl)) (by rfl) ?_|(refine wpList_sst (m:=0) (B:=none) (i:=0) (j:=0) (u:=tz) HK 0 rfl _ _ rfl rfl rfl rfl ?_;intro _ HK';simp only[List.set] at HK';replace HK:=HK';clear HK'))
  exact ret_ce Try.results4 rfl rfl rfl (HK.out.blk 0 rfl) (isDec_no HK.out.b)
 case pos=>
 have hfit:=Snp.fit_D hz
 obtain⟨l0,hl0,hsz,hall,_⟩:=Wire.D_ok hz
 have hlen:((Wire.D b).1.map Snp.ofW).length≤16384:=by
  have h1:=wire_len l0
  have h2:(Wire.all l0).length=b.size:=by rw[hall];exact Array.length_toList
  rw[hl0,List.length_map]
  show l0.length≤_
  omega
 have HDD:Hid (Snp.D false b=Snp.D1 false ((Wire.D b).1.map Snp.ofW)):=zH (if_pos hz)
 rw[HDD.out]
 rw[hz] at HD
 generalize (Wire.D b).1.map Snp.ofW=l at *
 clear hz hl0 hsz hall HDD hs
 have HF:=zH hfit
 have HL:=zH hlen
 clear hfit hlen
 go_enter Try.func4,Try.ntmps4
 go_wp2_with (first|(refine wpList_ast HK rfl rfl ?_;intro _ g1 HK';simp only[lnA] at HK';replace HK:=HK';clear HK'))
 refine(HD.out _).mono ?_;rintro e w1 ⟨A,n,c,rfl,o1,b1⟩
 have hrd:=Lay.Own.rd o1
 have hrn:=(Lay.Own.reads o1).1
 have hcap:=Lay.Own.cap o1
 have HRead:=zH (rread_any A n c l w1 hrd.1 hrn.symm hrd.2 (by omega) (by have:=HL.out;omega))
 replace HK:=hkC HK b1
 clear o1 b1 HD hrd hrn hcap
 go_wp2_with fail
 refine(HRead.out).mono ?_;intro e w2 hq
 clear HRead
 unfold IsRead at hq
 rcases hp:Snp.stP false l with _|⟨s,r⟩
 ·rw[hp] at hq
  obtain⟨rfl,b2⟩:=hq
  have HN:Hid (Snp.D1 false l=(Snp.stz,3)):=zH (by unfold Snp.D1;rw[hp])
  replace HK:=hkC HK b2
  clear hp b2
  go_wp2_with (first|go_big_skip|(refine wpList_ast HK rfl rfl ?_;intro _ g3 HK';simp only[lcA,lnA] at HK';replace HK:=HK';clear HK')|(refine wpList_sst (m:=0) (B:=none) (i:=0) (j:=0) (u:=tz) HK 1 rfl _ _ rfl rfl rfl rfl ?_;intro _ HK';simp only[List.set] at HK';replace HK:=HK';clear HK')|refine wpList_exe (exec_bst0 (by rfl)) (by rfl) ?_|(refine wpList_sst (m:=0) (B:=none) (i:=0) (j:=0) (u:=tz) HK 0 rfl _ _ rfl rfl rfl rfl ?_;intro _ HK';simp only[List.set] at HK';replace HK:=HK';clear HK'))
  exact ret_ce Try.results4 rfl rfl rfl (HK.out.blk 0 rfl) (by rw[HN.out];exact isDec_no HK.out.b)
 rw[hp] at hq
 obtain⟨x,bb,hx,hbb,rfl,k2⟩:=hq
 obtain⟨e1,e2⟩:=Snp.stP_snd HF.out hp
 by_cases hr:r=[]
 case neg=>
  have hb:bb=false:=by
   cases bb
   ·rfl
   ·exact absurd (hbb.1 rfl) hr
  subst hb
  have HN:Hid (Snp.D1 false l=(Snp.stz,3)):=zH (by
   unfold Snp.D1
   rw[hp]
   match r,hr with
   | [],hr=>exact absurd rfl hr
   | y::t,_=>rfl)
  replace HK:=zH (HK.out.call k2.b)
  clear hp k2 e1 e2 hbb hr hx
  unfold Sh.enc
  go_wp2_with (first|go_big_skip|(refine wpList_ast HK rfl rfl ?_;intro _ g3 HK';simp only[lcA,lnA] at HK';replace HK:=HK';clear HK')|(refine wpList_sst (m:=x.n) (B:=x.q.A) (i:=x.q.n) (j:=x.q.c) (u:=x.t) HK 1 rfl _ _ rfl rfl rfl rfl ?_;intro _ HK';simp only[List.set] at HK';replace HK:=HK';clear HK')|refine wpList_exe (exec_bst0 (by rfl)) (by rfl) ?_|(refine wpList_sst (m:=0) (B:=none) (i:=0) (j:=0) (u:=tz) HK 0 rfl _ _ rfl rfl rfl rfl ?_;intro _ HK';simp only[List.set] at HK';replace HK:=HK';clear HK'))
  exact ret_ce Try.results4 rfl rfl rfl (HK.out.blk 0 rfl) (by rw[HN.out];exact isDec_no HK.out.b)
 case pos=>
 subst hr
 rw[List.append_nil] at e1
 have hb:bb=true:=hbb.2 rfl
 subst hb
 subst hx
 rw[e1] at HF HL
 replace HK:=zH (HK.out.join k2)
 simp only[lnA] at HK
 have HRt:Hid (∀W L,Kn w.heap.size w W L (olRows x.q)→Calls Try.prog 10 #[.agg (stA x.n x.q.A x.q.n x.q.c x.t)] W (IsB (decide (Ap.Ok x.v)) W)):=zH fun W L hk=>by
  obtain⟨ho,hf⟩:=Sh.obs hk (fun y hy=>hy) HF.out e2 HL.out
  exact apright_any x.n x.q.A x.q.n x.q.c x.t x.q.l W ho hf
 by_cases hok:Ap.Ok x.v
 ·have HN:Hid (Snp.D1 false l=(x.v,0)):=zH (by unfold Snp.D1;rw[hp];exact if_pos hok)
  rw[decide_eq_true hok] at HRt
  unfold IsB at HRt
  clear hp k2 e1 e2 hbb hok
  unfold Sh.enc
  go_wp2_with (first|go_big_skip|(refine wpList_ast HK rfl rfl ?_;intro _ g3 HK';simp only[lcA,lnA] at HK';replace HK:=HK';clear HK')|(refine wpList_sst (m:=x.n) (B:=x.q.A) (i:=x.q.n) (j:=x.q.c) (u:=x.t) HK 1 rfl _ _ rfl rfl rfl rfl ?_;intro _ HK';simp only[List.set] at HK';replace HK:=HK';clear HK')|refine wpList_exe (kst HK 1 _ (by rfl) (by rfl) (by rfl)) (by rfl) ?_)
  refine(HRt.out _ _ HK.out).mono ?_;rintro e w3 ⟨rfl,b3⟩
  replace HK:=hkC HK b3
  clear b3 HRt
  go_wp2_with (first|refine wpList_exe (kst HK 1 _ (by rfl) (by rfl) (by rfl)) (by rfl) ?_|(refine wpList_sst (m:=x.n) (B:=x.q.A) (i:=x.q.n) (j:=x.q.c) (u:=x.t) HK 0 rfl _ _ rfl rfl rfl rfl ?_;intro _ HK';simp only[List.set] at HK';replace HK:=HK';clear HK'))
  exact ret_ce Try.results4 rfl rfl rfl (HK.out.blk 0 rfl) (by rw[HN.out];exact⟨x,rfl,rfl,HK.out.takeL 0⟩)
 ·have HN:Hid (Snp.D1 false l=(Snp.stz,3)):=zH (by unfold Snp.D1;rw[hp];exact if_neg hok)
  rw[decide_eq_false hok] at HRt
  unfold IsB at HRt
  clear hp k2 e1 e2 hbb hok
  unfold Sh.enc
  go_wp2_with (first|go_big_skip|(refine wpList_ast HK rfl rfl ?_;intro _ g3 HK';simp only[lcA,lnA] at HK';replace HK:=HK';clear HK')|(refine wpList_sst (m:=x.n) (B:=x.q.A) (i:=x.q.n) (j:=x.q.c) (u:=x.t) HK 1 rfl _ _ rfl rfl rfl rfl ?_;intro _ HK';simp only[List.set] at HK';replace HK:=HK';clear HK')|refine wpList_exe (kst HK 1 _ (by rfl) (by rfl) (by rfl)) (by rfl) ?_)
  refine(HRt.out _ _ HK.out).mono ?_;rintro e w3 ⟨rfl,b3⟩
  replace HK:=hkC HK b3
  clear b3 HRt
  go_wp2_with (first|refine wpList_exe (exec_bst0 (by rfl)) (by rfl) ?_|(refine wpList_sst (m:=0) (B:=none) (i:=0) (j:=0) (u:=tz) HK 0 rfl _ _ rfl rfl rfl rfl ?_;intro _ HK';simp only[List.set] at HK';replace HK:=HK';clear HK'))
  exact ret_ce Try.results4 rfl rfl rfl (HK.out.blk 0 rfl) (by rw[HN.out];exact isDec_no HK.out.b)
end
section
open Go.RowKit
namespace Snp
def aw:ByteArray:=⟨#[0,0,0,0,0,0,0,0,0,0,0,0,0,0,0,0,0,0,0,0,0,0,0,0,0,0,0,0,0,0,0,0]⟩
theorem ok_z:Ap.Ok stz:=Ap.ok_0
theorem fit_z:Fit (stI stz):=by
 intro x hx
 have h:∀y∈stI stz,y=n1 0∨y=t1 Val.emp:=by decide
 rcases h x hx with rfl|rfl<;>exact⟨fun _=>rfl,fun _=>rfl,by decide,by decide⟩
theorem ft_z:Ft stz:=⟨fun o ho=>(by cases ho),fun o ho=>(by cases ho),fun o ho=>(by cases ho),fun c hc=>by
 rcases Ses.cases5 hc with rfl|rfl|rfl|rfl|rfl<;>decide⟩
theorem one_0:Wire.one (toW (n1 0))=[0]:=by
 simp[Wire.one,toW,n1,Wire.lead,Wire.fold,Wire.nb,Wire.B]
theorem aw_I:(stI stz).map toW=List.replicate 32 (toW (n1 0)):=rfl
theorem all_rep(x:Wire.It)(b:UInt8)(h:Wire.one x=[b]):∀n,Wire.all (List.replicate n x)=List.replicate n b
 | 0=>rfl
 | n+1=>by
  have e:=all_rep x b h n
  unfold Wire.all at e ⊢
  rw[List.replicate_succ,List.flatMap_cons,h,e]
  rfl
theorem aw_E:E stz=(aw,0):=by
 rw[E_ok ok_z fit_z,aw_I,all_rep _ 0 one_0]
 rfl
theorem aw_D:D false aw=(stz,0):=by
 have h:=back ok_z fit_z ft_z false
 rw[aw_E] at h
 exact h
theorem aw_W:Wire.D (aw++⟨#[0]⟩)=(List.replicate 33 (toW (n1 0)),0):=by
 have hg:∀x∈List.replicate 33 (toW (n1 0)),x=toW (n1 0):=fun x hx=>(List.mem_replicate.1 hx).2
 have e:Wire.E (List.replicate 33 (toW (n1 0)))=(⟨(Wire.all (List.replicate 33 (toW (n1 0)))).toArray⟩,0):=Wire.E_of (by decide) (by rw[all_rep _ 0 one_0];decide)
 have h:=Wire.back (l:=List.replicate 33 (toW (n1 0))) (fun x hx=>by rw[hg x hx];exact⟨by decide,by decide⟩) (by rw[e])
 rw[e,all_rep _ 0 one_0] at h
 exact h
theorem aw_D2:D false (aw++⟨#[0]⟩)=(stz,3):=by
 unfold D
 rw[aw_W]
 rfl
end Snp
theorem Sh.nz{x:Sh}(h:x.v=Snp.stz):x.n=0∧x.t=tz∧x.q.l=[]:=by
 obtain⟨n,⟨A,k,c,l⟩,t⟩:=x
 have h1:=congrArg Ap.St.n h
 have h2:=congrArg Ap.St.t h
 have h3:=congrArg Ap.St.l h
 exact⟨h1,h2,List.map_eq_nil_iff.1 h3⟩
theorem snawake_any(w:World):Calls Try.prog 5 #[] w (IsB true w):=by
 have HK:=zH (Kn.start w)
 have HE:Hid (∀W,Calls Try.prog 7 #[.agg (stA 0 none 0 0 tz)] W (IsBe (Snp.aw,0) W)):=zH fun W=>by
  have h:=nencode_any 0 none 0 0 tz [] W ⟨Sls.none _,fun x hx=>by cases hx⟩ Snp.ft_z.t Snp.fit_z
  rw[show(⟨0,vs [],tz⟩:Ap.St)=Snp.stz from rfl,Snp.aw_E] at h
  exact h
 have HD1:Hid (∀W,Calls Try.prog 4 #[.string (Snp.aw++⟨#[0]⟩)] W (IsDec (Snp.stz,3) W)):=zH fun W=>by
  have h:=rdecode2_any (Snp.aw++⟨#[0]⟩) W (by decide)
  rw[Snp.aw_D2] at h
  exact h
 have HD2:Hid (∀W,Calls Try.prog 4 #[.string Snp.aw] W (IsDec (Snp.stz,0) W)):=zH fun W=>by
  have h:=rdecode2_any Snp.aw W (by decide)
  rw[Snp.aw_D] at h
  exact h
 have hl:(Snp.aw.size:Int)=32:=rfl
 generalize Snp.aw=b at *
 unfold IsBe at HE
 unfold IsB
 go_enter Try.func5,Try.ntmps5
 go_wp2_with fail
 refine(HE.out _).mono ?_;rintro e w1 ⟨rfl,b1⟩;replace HK:=hkC HK b1;clear b1
 go_wp2_with fail
 refine(HD1.out _).mono ?_;rintro e w1 ⟨x,hx,rfl,k1⟩;replace HK:=zH (HK.out.join k1);clear k1 hx
 obtain⟨n1,⟨A1,k1,c1,l1⟩,t1⟩:=x
 unfold Sh.enc
 dsimp only at HK ⊢
 go_wp2_with (first|(refine wpList_ast HK rfl rfl ?_;intro _ g1 HK';simp only[lnA,List.append_nil] at HK';replace HK:=HK';clear HK')|(refine wpList_sst HK 0 rfl _ _ rfl rfl rfl rfl ?_;intro _ HK';simp only[List.set] at HK';replace HK:=HK';clear HK'))
 refine(HD2.out _).mono ?_;rintro e w1 ⟨x,hx,rfl,k1⟩;replace HK:=zH (HK.out.join k1);clear k1
 obtain⟨n2,⟨A2,k2,c2,l2⟩,t2⟩:=x
 obtain rfl:n2=0:=(Sh.nz hx).1
 clear hx
 unfold Sh.enc
 simp only[List.append_nil] at HK
 dsimp only at HK ⊢
 go_wp2_with (first|(refine wpList_ast HK rfl rfl ?_;intro _ g2 HK';simp only[lcA,lnA] at HK';replace HK:=HK';clear HK')|(refine wpList_sst HK 1 rfl _ _ rfl rfl rfl rfl ?_;intro _ HK';simp only[List.set] at HK';replace HK:=HK';clear HK')|refine wpList_exe (kst_n HK 1 _ (by rfl) (by rfl) (by rfl)) (by rfl) ?_)
 go_ret
 exact⟨rfl,HK.out.b⟩
end
end Go.Proofs.Ytieoeendnccafaa
