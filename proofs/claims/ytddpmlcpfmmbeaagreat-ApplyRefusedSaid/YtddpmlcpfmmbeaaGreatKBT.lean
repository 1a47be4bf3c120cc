/- What the law ApplyRefused returns. No condition but those named. -/
import Derived.Test.YtddpmlcpfmmbeaaGreatTk
import Derived.Test.YtddpmlcpfmmbeaaGreatKBD
import Derived.Test.YtddpmlcpfmmbeaaGreatKAW
import Derived.Test.YtddpmlcpfmmbeaaGreatKBP
import Derived.Test.YtddpmlcpfmmbeaaGreatKBR
set_option linter.unusedSimpArgs false
set_option linter.unusedVariables false
set_option maxRecDepth 100000
set_option maxHeartbeats 25600000
namespace Go.Proofs.YtddpmlcpfmmbeaaGreat
section
open Go.RowKit
section
variable {P:Program}{b0:Nat}{w0 w:World}{L:List (Nat×TypeId×Array Value)}{R:List RowE}{ops:Array Oper}{rest:List Oper}{o:Oper}{a:Act}{Q:Exit→Act→World→Prop}
theorem wpList_kmoreL{α:Type}(La:Lay P α){v:Value}{l:List α}(HK:Hid (Kn b0 w0 w L (R++[row La v l])))(hgd:o.guard=none)(s x:Operand)(ho:o.op=.call { callee:=.builtin .append,args:=#[s,x],argTypes:=#[La.t,La.t] })
  (hs:a.eval s=v) (m:List α) {A:Option Addr} {n c B:Nat} (hx:a.eval x=.slice A n c) (hn:n=m.length) (hI:Hid (La.Reads w B A m∧(A=none→m=[])))
  (hl:Hid (l.length+m.length≤9223372036854775807∧(l.length+m.length)*La.bytes≤211106232532992))
  {N:Nat} (hN:Hid ((l++m).length=N)) (h:∀A' c' w',Hid (Kn b0 w0 w' L (R++[row La (.slice A' N c') (l++m)]))→wpList P ops Q rest (a.put o.dst (.slice A' N c')) w'):wpList P ops Q (o::rest) a w:=
 wpList_kmore HK La R.length hgd s x ho (by simp) hs m hx hn hI hl hN fun A' c' w' h1=>h A' c' w' (by
  have e:(R++[row La v l]).set R.length (row La (.slice A' N c') (l++m))=R++[row La (.slice A' N c') (l++m)]:=by simp
  rw[e] at h1
  exact h1)
end
def IsKs(n:Int)(r:List Sto.Ob)(t:Ses.T)(w:World)(e:Ending)(w':World):Prop:=∃(A:Option Addr) (k c:Nat) (l:List Oh) (Rn:List RowE),e=.returned (.agg (stA n A k c t))∧Hid (vs l=r)∧Kn w.heap.size w w' [] Rn∧
 Hid (∀(b:Nat) (W0 W:World) L R,Kn b W0 W L R→(∀z∈Rn,z∈R)→Obs W A k c l)
theorem aptwin_any(N:Int)(A:Option Addr)(c n:Nat)(t:Ses.T)(l:List Oh)(w:World)(hs:Obs w A n c l):
  Calls Tryz.prog 9 #[.agg (stA N A n c t)] w (IsKs N (vs l) t w):=by
 have HS:=zH hs
 have HNl:Hid (l.length=n):=zH hs.len
 have hbig:n*144≤140737488355328:=hs.s.big
 have HFo:=zH hs.fo
 have HK:=kn1 w 33 (stA N A n c t)
 clear hs
 go_enter Tryz.func9,Tryz.ntmps9
 go_wp2_with (first|(refine wpList_ast HK rfl rfl ?_;intro _ g1 HK';simp only[lcA,lnA] at HK';replace HK:=HK';clear HK')|refine wpList_exe (kst_o HK 0 _ (by rfl) (by rfl) (by rfl)) (by rfl) ?_|(refine wpList_ssto HK 0 rfl _ _ rfl rfl rfl rfl ?_;intro _ HK';simp only[List.set] at HK';replace HK:=HK';clear HK'))
 replace HK:=zH (HK.out.nilR obLay)
 simp only[lnA] at HK
 go_loopw [4] (fun vi wr=>∃(k:Nat) (A1:Option Addr) (c1:Nat) (l1:List Oh),k≤n∧vi=.int .i64 k∧Hid (vs l1=vs (l.take k))∧Hid (l1.length=k)∧Hid (Kn w.heap.size w wr [(w.heap.size,33,stA N A1 k c1 t),(g1,33,stA 0 none 0 0 tz)] (row obLay (.slice A1 k c1) l1::l1.flatMap rows3))) (fun vi _=>n-(intOf vi).toNat)
 case atStart=>exact⟨0,_,_,[],Nat.zero_le _,rfl,zH rfl,zH rfl,HK⟩
 case round=>
  clear HK
  obtain⟨k,A1,c1,l1,hk,rfl,HVs,HLen,HK⟩:=hrel
  by_cases hlt:k<n
  ·obtain⟨x,hx,hin⟩:=HS.out.get hlt
   obtain⟨b,o,rfl,hat⟩:=HS.out.s.at (Nat.lt_of_le_of_lt (Nat.zero_le _) hlt)
   have HX:Hid (∀j v,(obL x)[j]?=some v→wr.cell? ⟨b,o+k*11+j,none⟩=some v):=zH (hat wr HK.out.b k x hx)
   have HIx:=zH hin
   have HTk:Hid (vs (l.take (k+1))=vs (l.take k)++[x.v]):=zH (by rw[Lay.take_succ hx];unfold vs;rw[List.map_append];rfl)
   have HL:Hid (l1.length+1≤9223372036854775807∧(l1.length+1)*obLay.bytes≤211106232532992):=zH (by
    rw[HLen.out]
    refine⟨by omega,?_⟩
    show(k+1)*144≤_
    omega)
   have HN2:Hid (∀y:Oh,(l1++[y]).length=k+1):=zH fun y=>by rw[List.length_append,HLen.out];rfl
   have hpb:x.v.prs.length*56≤140737488355328:=hin.p.sls.fit.big
   have hvb:x.v.vals.length*40≤140737488355328:=hin.v.fit.big
   have hrb:x.v.refs.length*24≤140737488355328:=hin.r.fit.big
   have HLp:Hid (([]:List Dct.Pr).length+x.v.prs.length≤9223372036854775807∧(([]:List Dct.Pr).length+x.v.prs.length)*prLay.bytes≤211106232532992):=zH (by
    rw[List.length_nil,Nat.zero_add]
    refine⟨by omega,?_⟩
    show x.v.prs.length*56≤_
    omega)
   have HLv:Hid (([]:List Val.V).length+x.v.vals.length≤9223372036854775807∧(([]:List Val.V).length+x.v.vals.length)*vaLay.bytes≤211106232532992):=zH (by
    rw[List.length_nil,Nat.zero_add]
    refine⟨by omega,?_⟩
    show x.v.vals.length*40≤_
    omega)
   have HLr:Hid (([]:List Rf).length+x.v.refs.length≤9223372036854775807∧(([]:List Rf).length+x.v.refs.length)*rfLay.bytes≤211106232532992):=zH (by
    rw[List.length_nil,Nat.zero_add]
    refine⟨by omega,?_⟩
    show x.v.refs.length*24≤_
    omega)
   have HPn:Hid (x.pn=x.v.prs.length):=zH hin.p.len.symm
   have HVn:Hid (x.vn=x.v.vals.length):=zH hin.v.len.symm
   have HRn:Hid (x.rn=x.v.refs.length):=zH hin.r.len.symm
   have HPl:Hid ((([]:List Dct.Pr)++x.v.prs).length=x.pn):=zH hin.p.len
   have HVl:Hid ((([]:List Val.V)++x.v.vals).length=x.vn):=zH hin.v.len
   have HRl:Hid ((([]:List Rf)++x.v.refs).length=x.rn):=zH hin.r.len
   clear hat hx hin hpb hvb hrb
   have hk1:(0:Int)≤(k:Int):=by omega
   have hk2:(k:Int)<(n:Int):=by omega
   have hk3:k<9223372036854775807:=by omega
   go_wp2_with (first|(refine wpList_of_exec (v:=.agg (obA x)) (by rfl) (exec_obx (off:=o+k*11) _ (by rfl) (by rfl) HX.out) ?_)|(refine wpList_aob HK rfl rfl ?_;intro _ g5 HK';simp only[lcA,lnA] at HK';replace HK:=HK';clear HK')|refine wpList_exe (kst_o HK 0 _ (by rfl) (by rfl) (by rfl)) (by rfl) ?_|(refine wpList_ssto HK 0 rfl _ _ rfl rfl rfl rfl ?_;intro _ HK';simp only[List.set] at HK';replace HK:=HK';clear HK')|(refine wpList_sob HK 2 rfl _ _ rfl rfl rfl rfl ?_;intro _ HK';simp only[List.set] at HK';replace HK:=HK';clear HK')|(refine wpList_mk0 prLay HK rfl rfl ?_;intro _ g6 HK';replace HK:=HK';clear HK')|(refine wpList_mk0 vaLay HK rfl rfl ?_;intro _ g7 HK';replace HK:=HK';clear HK')|(refine wpList_mk0 rfLay HK rfl rfl ?_;intro _ g8 HK';replace HK:=HK';clear HK')|refine wpList_exe (kob_p HK 2 _ (by rfl) (by rfl) (by rfl)) (by rfl) ?_|refine wpList_exe (kob_v HK 2 _ (by rfl) (by rfl) (by rfl)) (by rfl) ?_|refine wpList_exe (kob_r HK 2 _ (by rfl) (by rfl) (by rfl)) (by rfl) ?_|(at_builtin;refine wpList_kmoreL prLay HK rfl _ _ rfl rfl x.v.prs rfl HPn.out (zH (let h:=HIx.out.p.later HK.out.b;And.intro h.rd h.nl)) HLp (N:=x.pn) HPl ?_;intro A4 c4 _ HK';simp only[lnA] at HK';replace HK:=HK';clear HK')|(at_builtin;refine wpList_kmoreL vaLay HK rfl _ _ rfl rfl x.v.vals rfl HVn.out (zH (let h:=HIx.out.v.later HK.out.b;And.intro h.rd h.nl)) HLv (N:=x.vn) HVl ?_;intro A5 c5 _ HK';simp only[lnA] at HK';replace HK:=HK';clear HK')|(at_builtin;refine wpList_kmoreL rfLay HK rfl _ _ rfl rfl x.v.refs rfl HRn.out (zH (let h:=HIx.out.r.later HK.out.b;And.intro h.rd h.nl)) HLr (N:=x.rn) HRl ?_;intro A6 c6 _ HK';simp only[lnA] at HK';replace HK:=HK';clear HK')|(refine wpList_sop HK 2 rfl _ _ rfl rfl rfl rfl x.v.prs ?_;intro _ HK';simp only[List.set] at HK';replace HK:=HK';clear HK')|(refine wpList_sov HK 2 rfl _ _ rfl rfl rfl rfl x.v.vals ?_;intro _ HK';simp only[List.set] at HK';replace HK:=HK';clear HK')|(refine wpList_sor HK 2 rfl _ _ rfl rfl rfl rfl x.v.refs ?_;intro _ HK';simp only[List.set] at HK';replace HK:=HK';clear HK')|refine wpList_exe (kob HK 2 _ (by rfl) (by rfl) (by rfl)) (by rfl) ?_|(refine wpList_mk1 obLay (p:=((x.sp A4 x.pn c4 x.v.prs).sv A5 x.vn c5 x.v.vals).sr A6 x.rn c6 x.v.refs) HK (by decide) rfl _ rfl rfl rfl ?_;intro _ g9 HK';have HR:=zH (Kn.lastOwn HK'.out).rd;have HN3:Hid ((l1++[((x.sp A4 x.pn c4 x.v.prs).sv A5 x.vn c5 x.v.vals).sr A6 x.rn c6 x.v.refs]).length=k+1):=zH (HN2.out _);simp only[lcA] at HK';replace HK:=HK';clear HK')|(at_builtin;refine wpList_kmore HK obLay 0 rfl _ _ rfl rfl rfl [((x.sp A4 x.pn c4 x.v.prs).sv A5 x.vn c5 x.v.vals).sr A6 x.rn c6 x.v.refs] rfl rfl HR HL (N:=k+1) HN3 ?_;intro A7 c7 _ HK';simp only[List.set] at HK';replace HK:=HK';clear HK')|refine wpList_exe (exec_add1 (j:=k) _ (by rfl) (by rfl) hk3) (by rfl) ?_)
   refine⟨⟨k+1,A7,c7,l1++[((x.sp A4 x.pn c4 x.v.prs).sv A5 x.vn c5 x.v.vals).sr A6 x.rn c6 x.v.refs],by omega,by go_num,zH ?_,HN3,zH ?_⟩,by simp[intOf];omega⟩
   ·rw[HTk.out,← HVs.out]
    unfold vs
    rw[List.map_append]
    rfl
   ·rw[rows3_snoc]
    have h:=HK.out.takeL 2
    rw[← lcA] at h
    exact h.init
  ·obtain rfl:k=n:=by omega
   have HEq:Hid (vs l1=vs l):=zH (by rw[HVs.out,← HNl.out,List.take_length])
   have HFo2:Hid (∀y∈vs l1,Fo y):=zH fun y hy=>by
    rw[HEq.out] at hy
    exact HFo.out y hy
   go_wp2_with (first|refine wpList_exe (kst HK 0 _ (by rfl) (by rfl) (by rfl)) (by rfl) ?_|(refine wpList_sst HK 1 rfl _ _ rfl rfl rfl rfl ?_;intro _ HK';simp only[List.set] at HK';replace HK:=HK';clear HK'))
   refine ret_st Tryz.results9 rfl rfl (HK.out.blk 1 rfl) ?_
   exact⟨A1,k,c1,l1,_,rfl,HEq,HK.out.takeL 0,zH fun b W0 W L R K hm=>K.obs (hm _ (List.mem_cons_self ..)) (fun y hy=>hm _ (List.mem_cons_of_mem _ hy)) HFo2.out hbig⟩
end
section
open Go.RowKit
theorem aprefused_any(n:Int)(A:Option Addr)(k cp:Nat)(t:Ses.T)(lo:List Oh)(e:Cmd.E)(w:World)(hs:Obs w A k cp lo)(hf:Ses.Fit t)(he:eF e)(hn:n≤9223372036854775807):
  Calls Tryz.prog 6 #[.agg (stA n A k cp t),.agg (evA e)] w (IsB true w):=by
 have HAw:=zH apawake_any
 have HTw:=zH (fun W (hW:Below w.heap.size w W)=>aptwin_any n A cp k t lo W (hs.later hW))
 have HAp:=zH (fun W (hW:Below w.heap.size w W)=>apapply_any n A k cp t lo e W (hs.later hW) hf he.1 he.2.1 he.2.2 hn)
 have HOw:=zH (fun O m d os W h=>own_any O m d os (Ap.ref e) W h)
 have HSm:=zH (fun A2 B2 k2 c2 k3 c3 a b W h1 h2 h3=>oh_same A2 B2 c2 k2 c3 k3 a b W h1 h2 h3)
 have HK:=kn2 w 33 (stA n A k cp t) 39 (evA e)
 have HRe:Hid (¬e.r=0→Ap.ownB (Ap.apO ⟨n,vs lo,t⟩ e) (Ap.ref e)=true→¬(Ap.ownP (Ap.apO ⟨n,vs lo,t⟩ e) (Ap.ref e)).e=0→(Ap.apS ⟨n,vs lo,t⟩ e).l=vs lo):=zH fun h0 hb hx=>Ap.ap_refused (s:=⟨n,vs lo,t⟩) h0 (Ap.own_some hb) hx
 unfold IsB at HAw HSm ⊢
 unfold IsKs at HTw
 unfold IsSt at HAp
 clear hs hf he hn
 generalize Ap.apS ⟨n,vs lo,t⟩ e=s2 at *
 generalize Ap.apO ⟨n,vs lo,t⟩ e=os at *
 obtain⟨n2,l2,t2⟩:=s2
 dsimp only at *
 generalize hB1:Ap.ownB os (Ap.ref e)=B1 at *
 generalize hP1:Ap.ownP os (Ap.ref e)=P1 at *
 have HE1:=zH (And.intro hB1 hP1)
 clear hB1 hP1
 go_enter Tryz.func6,Tryz.ntmps6
 go_wp2_with (first|refine wpList_exe (kst HK 0 _ (by rfl) (by rfl) (by rfl)) (by rfl) ?_)
 refine(HTw.out _ HK.out.b).mono ?_;rintro en w5 ⟨A1,k1,c1,lo1,R1,rfl,HV1,j1,HI1⟩
 replace HK:=zH (HK.out.join j1)
 simp only[lnA] at HK
 clear j1 HTw
 go_wp2_with (first|(refine wpList_ast HK rfl rfl ?_;intro _ g5 HK';simp only[lcA,lnA] at HK';replace HK:=HK';clear HK')|(refine wpList_sst HK 2 rfl _ _ rfl rfl rfl rfl ?_;intro _ HK';simp only[List.set] at HK';replace HK:=HK';clear HK')|refine wpList_exe (kst HK 0 _ (by rfl) (by rfl) (by rfl)) (by rfl) ?_|refine wpList_exe (kexec_ee HK 1 _ (by rfl) (by rfl) (by rfl)) (by rfl) ?_)
 refine(HAp.out _ HK.out.b).mono ?_;rintro en w5 ⟨A2,k2,c2,lo2,O2,m2,d2,R2,rfl,HV2,j2,HI2⟩
 replace HK:=zH (HK.out.join j2)
 clear j2 HAp
 go_wp2_with (first|(refine wpList_ast HK rfl rfl ?_;intro _ g6 HK';simp only[lcA,lnA] at HK';replace HK:=HK';clear HK')|(refine wpList_sst HK 3 rfl _ _ rfl rfl rfl rfl ?_;intro _ HK';simp only[List.set] at HK';replace HK:=HK';clear HK')|refine wpList_exe (kexec_eref HK 1 _ (by rfl) (by rfl) (by rfl)) (by rfl) ?_)
 refine(HOw.out O2 m2 d2 os _ (HI2.out _ _ _ _ _ HK.out (fun z hz=>List.mem_append.2 (.inr hz)) trivial).2).mono ?_;rintro en w7 ⟨rfl,b1⟩
 replace HK:=hkC HK b1;clear b1
 rw[HE1.out.1,HE1.out.2]
 clear HOw
 go_upto_region 4 with (first|(refine wpList_arp HK rfl rfl ?_;intro _ g8 HK';simp only[lcA,lnA] at HK';replace HK:=HK';clear HK')|(refine wpList_srp (q:=P1) HK 4 rfl _ _ rfl rfl rfl rfl ?_;intro _ HK';simp only[List.set] at HK';replace HK:=HK';clear HK'))
 have fe:=HK.out.cell 4 rfl 0 (v:=.int .i64 P1.e) rfl
 have fr:=HK.out.cell 1 rfl 2 (v:=.int .i64 e.r) rfl
 cases B1 with
 | false=>
  clear HRe
  go_wp2_with fail
  refine(HAw.out _).mono ?_;rintro en w9 ⟨rfl,b1⟩;replace HK:=hkC HK b1;clear b1
  go_wp2_with fail
  go_ret
  exact⟨rfl,HK.out.b⟩
 | true=>
 by_cases h1:P1.e=0
 case pos=>
  have hb:(P1.e==0)=true:=by simpa using h1
  clear HRe h1
  go_wp2_with fail
  refine(HAw.out _).mono ?_;rintro en w9 ⟨rfl,b1⟩;replace HK:=hkC HK b1;clear b1
  go_wp2_with fail
  go_ret
  exact⟨rfl,HK.out.b⟩
 case neg=>
 have hb:(P1.e==0)=false:=by simpa using h1
 by_cases h2:e.r=0
 case pos=>
  have hb2:(e.r==0)=true:=by simpa using h2
  clear HRe h1 h2
  go_wp2_with fail
  refine(HAw.out _).mono ?_;rintro en w9 ⟨rfl,b1⟩;replace HK:=hkC HK b1;clear b1
  go_wp2_with fail
  go_ret
  exact⟨rfl,HK.out.b⟩
 case neg=>
 have hb2:(e.r==0)=false:=by simpa using h2
 have HEq:=zH (HRe.out h2 rfl h1)
 clear HRe h1 h2
 go_wp2_with fail
 refine(HAw.out _).mono ?_;rintro en w9 ⟨rfl,b1⟩;replace HK:=hkC HK b1;clear b1
 clear fe fr hb hb2
 go_wp2_with (first|refine wpList_exe (kst_o HK 3 _ (by rfl) (by rfl) (by rfl)) (by rfl) ?_|refine wpList_exe (kst_o HK 2 _ (by rfl) (by rfl) (by rfl)) (by rfl) ?_)
 refine(HSm.out A2 A1 k2 c2 k1 c1 lo2 lo1 _ (HI2.out _ _ _ _ _ HK.out (fun z hz=>List.mem_append.2 (.inr hz)) trivial).1 (HI1.out _ _ _ _ _ HK.out (fun z hz=>List.mem_append.2 (.inl hz))) (by rw[HV2.out,HV1.out,HEq.out])).mono ?_;rintro en w9 ⟨rfl,b1⟩
 replace HK:=hkC HK b1;clear b1
 go_wp2_with fail
 go_ret
 exact⟨rfl,HK.out.b⟩
end
end Go.Proofs.YtddpmlcpfmmbeaaGreat
