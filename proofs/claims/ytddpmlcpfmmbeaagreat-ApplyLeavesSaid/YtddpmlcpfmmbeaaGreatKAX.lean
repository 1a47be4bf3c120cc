/- What wait returns: a gate that is come to. No condition but those named. -/
import Derived.Test.YtddpmlcpfmmbeaaGreatTk
import Derived.Test.YtddpmlcpfmmbeaaGreatKAU
import Derived.Test.YtddpmlcpfmmbeaaGreatKAQ
import Derived.Test.YtddpmlcpfmmbeaaGreatKAW
set_option linter.unusedSimpArgs false
set_option linter.unusedVariables false
set_option maxRecDepth 100000
set_option maxHeartbeats 25600000
namespace Go.Proofs.YtddpmlcpfmmbeaaGreat
section
open Go.RowKit
def IsWt(r s:List Rf)(x:Int)(w:World)(e:Ending)(w':World):Prop:=∃A n c B k d,e=.returned (.tuple #[.slice A n c,.slice B k d,.int .i64 x])∧(∀(b0:Nat) (w0:World) L R,Kn b0 w0 w L R→Kn b0 w0 w' L (R++[row rfLay (.slice A n c) r,row rfLay (.slice B k d) s]))∧Below w.heap.size w w'
theorem two_left{w w':World}{A:Option Addr}{n c:Nat}{r:List Rf}(ho:rfLay.Own w.heap.size w' (.slice A n c) r)(hb:Below w.heap.size w w'):∀(b0:Nat) (w0:World) L R,Kn b0 w0 w L R→Kn b0 w0 w' L (R++[row rfLay (.slice A n c) r,row rfLay (.slice none 0 0) []]):=fun b0 w0 L R h=>by
 have h2:=(h.called hb ho).nilR rfLay
 rw[List.append_assoc] at h2
 exact h2
theorem two_right{w w':World}{A:Option Addr}{n c:Nat}{r:List Rf}(ho:rfLay.Own w.heap.size w' (.slice A n c) r)(hb:Below w.heap.size w w'):∀(b0:Nat) (w0:World) L R,Kn b0 w0 w L R→Kn b0 w0 w' L (R++[row rfLay (.slice none 0 0) [],row rfLay (.slice A n c) r]):=fun b0 w0 L R h=>by
 have h2:=(h.nilR rfLay).called hb ho
 rw[List.append_assoc] at h2
 exact h2
theorem gwait_any(m:Int)(A:Option Addr)(c n:Nat)(l:List Rf)(r:Rf)(w:World)(hs:Sls rfLay rF w A n c l):
  Calls Tryz.prog 184 #[.int .i64 m,.slice A n c,.agg #[.int .i64 r.c,.int .i64 r.e,.int .i64 r.r]] w (IsWt (Gt.wtL m l r) (Gt.wtA m l r) (Gt.wtE m l r) w):=by
 have HM:=zH (fun W (hW:Below w.heap.size w W)=>gright_any m A c n l W (hs.later hW))
 have HC:=zH (fun W=>cmr_any r W)
 have HAs:=zH (fun W (hW:Below w.heap.size w W)=>waits_any A c n l r.c W (hs.later hW))
 have HS:=zH hs
 have HJ:=zH rconcat_any
 have hlen:=hs.len
 have HK:=kn1 w 35 #[.int .i64 r.c,.int .i64 r.e,.int .i64 r.r]
 unfold IsB IsWt at *
 by_cases hr:Gt.Right m l
 case neg=>
  rw[decide_eq_false hr] at HM
  obtain⟨e1,e2,e3⟩:=Gt.wt_bad (r:=r) (fun h=>hr h.1)
  rw[e1,e2,e3]
  clear e1 e2 e3 hr hs hlen HC HAs
  go_enter Tryz.func184,Tryz.ntmps184
  go_wp2_with fail
  refine(HM.out _ HK.out.b).mono ?_;rintro e w1 ⟨rfl,b1⟩
  replace HK:=hkC HK b1;clear b1
  go_wp2_with (first|(refine wpList_mks1 rfLay rfNest HK rfl _ rfl rfl ?_;intro w2 g7 HK' _;simp only[lcA,lnA] at HK';replace HK:=HK';clear HK'))
  refine(HJ.out.one HK 1 rfl (HS.out.later HK.out.b)).mono ?_;rintro e w3 ⟨A4,n4,c4,rfl,o4,b4⟩;replace HK:=zH (HK.out.called b4 o4);simp only[lnA] at HK;clear o4 b4
  go_wp2_with fail
  exact ret_t3 Tryz.results184 rfl rfl rfl rfl ⟨A4,n4,c4,none,0,0,rfl,two_left (HK.out.own 0 rfl) HK.out.b,HK.out.b⟩
 case pos=>
 rw[decide_eq_true hr] at HM
 by_cases hok:Lck.ok r
 case neg=>
  rw[decide_eq_false hok] at HC
  obtain⟨e1,e2,e3⟩:=Gt.wt_bad (m:=m) (l:=l) (r:=r) (fun h=>hok h.2)
  rw[e1,e2,e3]
  clear e1 e2 e3 hr hok hs hlen HAs
  go_enter Tryz.func184,Tryz.ntmps184
  go_wp2_with fail
  refine(HM.out _ HK.out.b).mono ?_;rintro e w1 ⟨rfl,b1⟩
  replace HK:=hkC HK b1;clear b1
  go_wp2_with (first|refine wpList_exe (kexec_lr HK 0 _ (by rfl) (by rfl) (by rfl)) (by rfl) ?_)
  refine(HC.out _).mono ?_;rintro e w1 ⟨rfl,b1⟩
  replace HK:=hkC HK b1;clear b1
  go_wp2_with (first|(refine wpList_mks1 rfLay rfNest HK rfl _ rfl rfl ?_;intro w2 g7 HK' _;simp only[lcA,lnA] at HK';replace HK:=HK';clear HK'))
  refine(HJ.out.one HK 1 rfl (HS.out.later HK.out.b)).mono ?_;rintro e w3 ⟨A4,n4,c4,rfl,o4,b4⟩;replace HK:=zH (HK.out.called b4 o4);simp only[lnA] at HK;clear o4 b4
  go_wp2_with fail
  exact ret_t3 Tryz.results184 rfl rfl rfl rfl ⟨A4,n4,c4,none,0,0,rfl,two_left (HK.out.own 0 rfl) HK.out.b,HK.out.b⟩
 case pos=>
 rw[decide_eq_true hok] at HC
 by_cases ha:Lck.asked l r.c=true
 ·rw[ha] at HAs
  obtain⟨e1,e2,e3⟩:=Gt.wt_held hr hok ha
  rw[e1,e2,e3]
  clear e1 e2 e3 hr hok hs hlen ha
  go_enter Tryz.func184,Tryz.ntmps184
  go_wp2_with fail
  refine(HM.out _ HK.out.b).mono ?_;rintro e w1 ⟨rfl,b1⟩
  replace HK:=hkC HK b1;clear b1
  go_wp2_with (first|refine wpList_exe (kexec_lr HK 0 _ (by rfl) (by rfl) (by rfl)) (by rfl) ?_)
  refine(HC.out _).mono ?_;rintro e w1 ⟨rfl,b1⟩
  replace HK:=hkC HK b1;clear b1
  go_wp2_with (first|refine wpList_exe (kexec_lc0 HK 0 _ (by rfl) (by rfl) (by rfl)) (by rfl) ?_)
  refine(HAs.out _ HK.out.b).mono ?_;rintro e w1 ⟨rfl,b1⟩
  replace HK:=hkC HK b1;clear b1
  go_wp2_with (first|(refine wpList_mks1 rfLay rfNest HK rfl _ rfl rfl ?_;intro w2 g7 HK' _;simp only[lcA,lnA] at HK';replace HK:=HK';clear HK'))
  refine(HJ.out.one HK 1 rfl (HS.out.later HK.out.b)).mono ?_;rintro e w3 ⟨A4,n4,c4,rfl,o4,b4⟩;replace HK:=zH (HK.out.called b4 o4);simp only[lnA] at HK;clear o4 b4
  go_wp2_with fail
  exact ret_t3 Tryz.results184 rfl rfl rfl rfl ⟨A4,n4,c4,none,0,0,rfl,two_left (HK.out.own 0 rfl) HK.out.b,HK.out.b⟩
 ·have ha2:Lck.asked l r.c=false:=Bool.eq_false_iff.2 ha
  rw[ha2] at HAs
  have h5:=Lck.right_len hr.2.2.2
  have HF:=zH (fits_one r)
  have HLn:Hid ((l++[r]).length=n+1):=zH (by rw[List.length_append,hlen];rfl)
  rw[hlen] at h5
  by_cases hfull:(l.length:Int)+1=m
  ·obtain⟨e1,e2,e3⟩:=Gt.wt_full hr hok ha2 hfull
   rw[e1,e2,e3]
   have HM4:Hid (∀n4:Nat,n4=(l++[r]).length→((n4:Int)==m)=true):=zH fun n4 h=>by
    rw[h,HLn.out,beq_iff_eq,← hfull,hlen];omega
   clear e1 e2 e3 hr hok hs hlen ha ha2 hfull HLn
   go_enter Tryz.func184,Tryz.ntmps184
   go_wp2_with fail
   refine(HM.out _ HK.out.b).mono ?_;rintro e w1 ⟨rfl,b1⟩
   replace HK:=hkC HK b1;clear b1
   go_wp2_with (first|refine wpList_exe (kexec_lr HK 0 _ (by rfl) (by rfl) (by rfl)) (by rfl) ?_)
   refine(HC.out _).mono ?_;rintro e w1 ⟨rfl,b1⟩
   replace HK:=hkC HK b1;clear b1
   go_wp2_with (first|refine wpList_exe (kexec_lc0 HK 0 _ (by rfl) (by rfl) (by rfl)) (by rfl) ?_)
   refine(HAs.out _ HK.out.b).mono ?_;rintro e w1 ⟨rfl,b1⟩
   replace HK:=hkC HK b1;clear b1
   go_wp2_with (first|refine wpList_exe (kexec_lr HK 0 _ (by rfl) (by rfl) (by rfl)) (by rfl) ?_|(refine wpList_mk1 rfLay (p:=r) HK (by decide) rfl _ rfl rfl rfl ?_;intro _ g5 HK';simp only[lcA,lnA] at HK';have HR:=zH (HK'.out.own 0 rfl).rd;replace HK:=HK';clear HK')|(refine wpList_mks2 rfLay rfNest HK rfl _ _ rfl rfl rfl ?_;intro w2 g7 HK' _;simp only[lcA,lnA] at HK';replace HK:=HK';clear HK'))
   refine(HJ.out.two HK 1 rfl (HS.out.later HK.out.b) (Sls.own (HK.out.own 0 rfl) HF.out) (by show(n+1)*24≤_;omega)).mono ?_;rintro e w3 ⟨A4,n4,c4,rfl,o4,b4⟩
   have hz:=HM4.out n4 (Lay.Own.reads o4).1
   replace HK:=zH (HK.out.called b4 o4)
   clear o4 b4
   go_wp2_with fail
   exact ret_t3 Tryz.results184 rfl rfl rfl rfl ⟨none,0,0,A4,n4,c4,rfl,two_right (HK.out.own 1 rfl) HK.out.b,HK.out.b⟩
  ·obtain⟨e1,e2,e3⟩:=Gt.wt_more hr hok ha2 hfull
   rw[e1,e2,e3]
   have HM4:Hid (∀n4:Nat,n4=(l++[r]).length→((n4:Int)==m)=false):=zH fun n4 h=>by
    rw[h,HLn.out,beq_eq_false_iff_ne]
    intro he
    apply hfull
    rw[← he,hlen];omega
   clear e1 e2 e3 hr hok hs hlen ha ha2 hfull HLn
   go_enter Tryz.func184,Tryz.ntmps184
   go_wp2_with fail
   refine(HM.out _ HK.out.b).mono ?_;rintro e w1 ⟨rfl,b1⟩
   replace HK:=hkC HK b1;clear b1
   go_wp2_with (first|refine wpList_exe (kexec_lr HK 0 _ (by rfl) (by rfl) (by rfl)) (by rfl) ?_)
   refine(HC.out _).mono ?_;rintro e w1 ⟨rfl,b1⟩
   replace HK:=hkC HK b1;clear b1
   go_wp2_with (first|refine wpList_exe (kexec_lc0 HK 0 _ (by rfl) (by rfl) (by rfl)) (by rfl) ?_)
   refine(HAs.out _ HK.out.b).mono ?_;rintro e w1 ⟨rfl,b1⟩
   replace HK:=hkC HK b1;clear b1
   go_wp2_with (first|refine wpList_exe (kexec_lr HK 0 _ (by rfl) (by rfl) (by rfl)) (by rfl) ?_|(refine wpList_mk1 rfLay (p:=r) HK (by decide) rfl _ rfl rfl rfl ?_;intro _ g5 HK';simp only[lcA,lnA] at HK';have HR:=zH (HK'.out.own 0 rfl).rd;replace HK:=HK';clear HK')|(refine wpList_mks2 rfLay rfNest HK rfl _ _ rfl rfl rfl ?_;intro w2 g7 HK' _;simp only[lcA,lnA] at HK';replace HK:=HK';clear HK'))
   refine(HJ.out.two HK 1 rfl (HS.out.later HK.out.b) (Sls.own (HK.out.own 0 rfl) HF.out) (by show(n+1)*24≤_;omega)).mono ?_;rintro e w3 ⟨A4,n4,c4,rfl,o4,b4⟩
   have hz:=HM4.out n4 (Lay.Own.reads o4).1
   replace HK:=zH (HK.out.called b4 o4)
   clear o4 b4
   go_wp2_with fail
   exact ret_t3 Tryz.results184 rfl rfl rfl rfl ⟨A4,n4,c4,none,0,0,rfl,two_left (HK.out.own 1 rfl) HK.out.b,HK.out.b⟩
end
section
open Go.RowKit
theorem exec_incw{w:World}{o:Oper}{a:Act}{x y:Int}(p:Operand)(ho:o.op=.binOp .add 3 p (.const (.int .i64 1)) 3)(hp:a.eval p=.int .i64 x)(hy:IntKind.i64.wrap (x+1)=y):
  (execOp a.eval o).run Tryz.prog w=.ok (.value (.int .i64 y)) w:=exec_inc p ho hp hy
theorem thru_snoc{s:List Rf}{k:Nat}{y:Rf}(p:Sto.Rp)(h:s[k]?=some y):Sto.thru (s.take (k+1)) p=Sto.thru (s.take k) p++[⟨y,p⟩]:=by
 unfold Sto.thru
 rw[Lay.take_succ h,List.map_append]
 rfl
theorem swait_any(w0:World)(x:Oh)(r:Rf)(w:World)(hx0:In w0 x)(hw:Below w0.heap.size w0 w)(hd:0≤x.v.round):Calls Tryz.prog 161 #[.agg (obA x),.agg #[.int .i64 r.c,.int .i64 r.e,.int .i64 r.r]] w (IsOc w0 (Sto.wait x.v r) w):=by
 have hx:=hx0.later hw
 have HI:=zH hx0
 have HT:=zH (fun W (hW:Below w.heap.size w W)=>gwait_any x.v.cap x.rA x.rc x.rn x.v.refs r W (hx.r.later hW))
 have HFt:=zH (fits_wt (m:=x.v.cap) (r:=r) hx.r.fit)
 have HLn:Hid (∀r':Rf,(Gt.wtA x.v.cap x.v.refs r).length≤6):=zH fun _=>by
  by_cases he:Gt.wtE x.v.cap x.v.refs r=0
  ·obtain⟨h1,h2,h3⟩:=Gt.wt_is he
   have h5:=Lck.right_len h1.2.2.2
   by_cases hf:(x.v.refs.length:Int)+1=x.v.cap
   ·rw[(Gt.wt_full h1 h2 h3 hf).2.2,List.length_append];show _+1≤6;omega
   ·rw[(Gt.wt_more h1 h2 h3 hf).2.2];exact Nat.zero_le _
  ·rw[(Gt.wt_no (z:=Gt.wtE x.v.cap x.v.refs r) rfl he).2.2];exact Nat.zero_le _
 have HNu:=zH snumber_any
 have HK:=kn3 w 60 (obA x) 35 #[.int .i64 r.c,.int .i64 r.e,.int .i64 r.r] 158 (ocA ohZ Sto.rz false none 0 0)
 have hmax:=hx.d
 unfold IsOc Sto.wait
 unfold IsWt at HT
 clear hx hx0 hw
 generalize Gt.wtL x.v.cap x.v.refs r=m at *
 generalize Gt.wtA x.v.cap x.v.refs r=s at *
 generalize Gt.wtE x.v.cap x.v.refs r=z at *
 by_cases hs:s.length=0
 ·rw[if_pos hs]
  obtain rfl:s=[]:=List.length_eq_zero_iff.1 hs
  clear hs hd hmax HLn HNu
  by_cases hz:z=0
  ·subst hz
   go_enter Tryz.func161,Tryz.ntmps161
   go_wp2_with (first|refine wpList_exe (kob_c HK 0 _ (by rfl) (by rfl) (by rfl)) (by rfl) ?_|refine wpList_exe (kob_r HK 0 _ (by rfl) (by rfl) (by rfl)) (by rfl) ?_|refine wpList_exe (kexec_lr HK 1 _ (by rfl) (by rfl) (by rfl)) (by rfl) ?_)
   refine(HT.out _ HK.out.b).mono ?_;rintro e w1 ⟨A4,n4,c4,A5,n5,c5,rfl,k4,b4⟩
   replace HK:=zH (k4 _ _ _ _ HK.out)
   simp only[lnA] at HK
   clear k4 b4
   obtain rfl:n5=0:=(HK.out.own 1 rfl).reads.1
   go_wp2_with (first|(refine wpList_sor HK 0 rfl _ _ rfl rfl rfl rfl m ?_;intro _ HK';simp only[List.set] at HK';replace HK:=HK';clear HK')|refine wpList_exe (kob HK 0 _ (by rfl) (by rfl) (by rfl)) (by rfl) ?_|refine wpList_exe (exec_b3 (p:=Sto.err 0) _ _ _ (by rfl) (by rfl) (by rfl) (by rfl)) (by rfl) ?_|(refine wpList_soc HK 2 rfl _ _ rfl rfl rfl rfl ?_;intro _ HK';simp only[List.set] at HK';replace HK:=HK';clear HK'))
   exact ret_oc Tryz.results161 rfl rfl (HK.out.blk 2 rfl) ⟨_,_,_,_,_,rfl,rfl,HK.out.takeL 0,fun _ _ _ _ _ K hm=>⟨fun hb=>(HI.out.later hb).sr (Sls.own (K.mem (hm _ (List.mem_cons_self ..))) HFt.out.1),Sls.none _⟩⟩
  ·have hz2:(z==0)=false:=by simpa using hz
   rw[decide_eq_false hz]
   clear hz
   go_enter Tryz.func161,Tryz.ntmps161
   go_wp2_with (first|refine wpList_exe (kob_c HK 0 _ (by rfl) (by rfl) (by rfl)) (by rfl) ?_|refine wpList_exe (kob_r HK 0 _ (by rfl) (by rfl) (by rfl)) (by rfl) ?_|refine wpList_exe (kexec_lr HK 1 _ (by rfl) (by rfl) (by rfl)) (by rfl) ?_)
   refine(HT.out _ HK.out.b).mono ?_;rintro e w1 ⟨A4,n4,c4,A5,n5,c5,rfl,k4,b4⟩
   replace HK:=zH (k4 _ _ _ _ HK.out)
   simp only[lnA] at HK
   clear k4 b4
   obtain rfl:n5=0:=(HK.out.own 1 rfl).reads.1
   go_wp2_with (first|(refine wpList_sor HK 0 rfl _ _ rfl rfl rfl rfl m ?_;intro _ HK';simp only[List.set] at HK';replace HK:=HK';clear HK')|refine wpList_exe (kob HK 0 _ (by rfl) (by rfl) (by rfl)) (by rfl) ?_|refine wpList_exe (exec_b3 (p:=Sto.err z) _ _ _ (by rfl) (by rfl) (by rfl) (by rfl)) (by rfl) ?_|(refine wpList_soc HK 2 rfl _ _ rfl rfl rfl rfl ?_;intro _ HK';simp only[List.set] at HK';replace HK:=HK';clear HK'))
   exact ret_oc Tryz.results161 rfl rfl (HK.out.blk 2 rfl) ⟨_,_,_,_,_,rfl,rfl,HK.out.takeL 0,fun _ _ _ _ _ K hm=>⟨fun hb=>(HI.out.later hb).sr (Sls.own (K.mem (hm _ (List.mem_cons_self ..))) HFt.out.1),Sls.none _⟩⟩
 rw[if_neg hs]
 have hlen:=HLn.out r
 generalize hN:s.length=N at *
 have HNl:=zH hN
 clear hN HLn
 have hz1:((N:Int)==0)=false:=by simpa using hs
 by_cases hm:x.v.round=9223372036854775807
 ·rw[if_pos hm]
  have HM:=zH hm
  have hmb:(x.v.round==9223372036854775807)=true:=by simpa using hm
  clear hm hd hmax hs
  go_enter Tryz.func161,Tryz.ntmps161
  go_wp2_with (first|refine wpList_exe (kob_c HK 0 _ (by rfl) (by rfl) (by rfl)) (by rfl) ?_|refine wpList_exe (kob_r HK 0 _ (by rfl) (by rfl) (by rfl)) (by rfl) ?_|refine wpList_exe (kexec_lr HK 1 _ (by rfl) (by rfl) (by rfl)) (by rfl) ?_)
  refine(HT.out _ HK.out.b).mono ?_;rintro e w1 ⟨A4,n4,c4,A5,n5,c5,rfl,k4,b4⟩
  replace HK:=zH (k4 _ _ _ _ HK.out)
  simp only[lnA] at HK
  clear k4 b4
  obtain rfl:n5=N:=(HK.out.own 1 rfl).reads.1.trans HNl.out
  go_wp2_with (first|refine wpList_exe (kob_d HK 0 _ (by rfl) (by rfl) (by rfl)) (by rfl) ?_|refine wpList_exe (kob HK 0 _ (by rfl) (by rfl) (by rfl)) (by rfl) ?_|refine wpList_exe (exec_b2 (p:=Sto.err 6) _ _ (by rfl) (by rfl) (by rfl)) (by rfl) ?_|(refine wpList_soc HK 2 rfl _ _ rfl rfl rfl rfl ?_;intro _ HK';simp only[List.set] at HK';replace HK:=HK';clear HK'))
  exact ret_oc Tryz.results161 rfl rfl (HK.out.blk 2 rfl) ⟨_,_,_,_,_,rfl,rfl,HK.out.takeL 0,fun _ _ _ _ _ K hm=>⟨fun hb=>HI.out.later hb,Sls.none _⟩⟩
 rw[if_neg hm]
 have hmb:(x.v.round==9223372036854775807)=false:=by simpa using hm
 have HInc:Hid (IntKind.i64.wrap (x.v.round+1)=x.v.round+1):=zH (by rw[IntKind.wrap_i64];omega)
 have HMx:Hid (x.v.round+1≤9223372036854775807):=zH (by omega)
 clear hm hd hmax
 obtain⟨M,rfl⟩:∃M,N=M+1:=⟨N-1,by omega⟩
 clear hs
 rw[Nat.add_sub_cancel]
 have hM2:M<9223372036854775807:=by omega
 have hM3:M≤6:=by omega
 have HFa:=zH HFt.out.2
 go_enter Tryz.func161,Tryz.ntmps161
 go_wp2_with (first|refine wpList_exe (kob_c HK 0 _ (by rfl) (by rfl) (by rfl)) (by rfl) ?_|refine wpList_exe (kob_r HK 0 _ (by rfl) (by rfl) (by rfl)) (by rfl) ?_|refine wpList_exe (kexec_lr HK 1 _ (by rfl) (by rfl) (by rfl)) (by rfl) ?_)
 refine(HT.out _ HK.out.b).mono ?_;rintro e w1 ⟨A4,n4,c4,A5,n5,c5,rfl,k4,b4⟩
 replace HK:=zH (k4 _ _ _ _ HK.out)
 simp only[lnA] at HK
 clear k4 b4
 obtain rfl:n5=M+1:=(HK.out.own 1 rfl).reads.1.trans HNl.out
 have hcap:M≤c5:=by
  have h:=(HK.out.own 1 rfl).cap
  rw[HNl.out] at h
  exact Nat.le_trans (Nat.le_succ M) h
 go_wp2_with (first|refine wpList_exe (kob_d HK 0 _ (by rfl) (by rfl) (by rfl)) (by rfl) ?_)
 refine(HNu.out _ _).mono ?_;rintro e w2 ⟨rfl,b1⟩
 replace HK:=hkC HK b1;clear b1
 go_wp2_with (first|(refine wpList_arp HK rfl rfl ?_;intro _ g8 HK';simp only[lcA,lnA] at HK';replace HK:=HK';clear HK')|(refine wpList_srp (q:=⟨0,Sto.num x.v.round⟩) HK 3 rfl _ _ rfl rfl rfl rfl ?_;intro _ HK';simp only[List.set] at HK';replace HK:=HK';clear HK')|(refine wpList_mk0 otLay HK rfl rfl ?_;intro _ g9 HK';simp only[lcA,lnA] at HK';replace HK:=HK';clear HK')|refine wpList_exe (exec_sub1 (j:=M) _ (by rfl) (by rfl) hM2) (by rfl) ?_|refine wpList_exe (exec_sls_h rfLay (hi:=M) _ _ (by rfl) (by rfl) (by rfl) hcap) (by rfl) ?_)
 go_loopw [9,52] (fun vo vi wr=>∃(k:Nat) (A7:Option Addr) (c7:Nat),k≤M∧vo=.slice A7 k c7∧vi=.int .i64 k∧Hid ((Sto.thru (s.take k) ⟨0,Sto.num x.v.round⟩).length=k)∧Hid (Kn w.heap.size w wr [(w.heap.size,60,obA x),(w.heap.size+1,35,#[.int .i64 r.c,.int .i64 r.e,.int .i64 r.r]),(w.heap.size+2,158,ocA ohZ Sto.rz false none 0 0),(g8,28,rpA ⟨0,Sto.num x.v.round⟩)] [row rfLay (.slice A4 n4 c4) m,row rfLay (.slice A5 (M+1) c5) s,row otLay (.slice A7 k c7) (Sto.thru (s.take k) ⟨0,Sto.num x.v.round⟩)])) (fun _ vi _=>M-(intOf vi).toNat)
 case atStart=>exact⟨0,_,_,Nat.zero_le _,rfl,rfl,zH rfl,HK⟩
 case round=>
  clear HK
  obtain⟨k,A7,c7,hk,rfl,rfl,hL7,HK⟩:=hrel
  by_cases hlt:k<M
  ·obtain⟨y,hy⟩:=Lay.get_of (l:=s) (k:=k) (by rw[HNl.out];omega)
   have hsl:Sls rfLay rF wr A5 (M+1) c5 s:=Sls.own (HK.out.own 1 rfl) HFa.out
   obtain⟨b,o,rfl,hat⟩:=hsl.at (Nat.succ_pos M)
   have HY:Hid (∀j v,(rfL y)[j]?=some v→wr.cell? ⟨b,o+k*3+j,none⟩=some v):=zH (hat wr (Below.refl _ _) k y hy)
   have HTk:=zH (thru_snoc ⟨0,Sto.num x.v.round⟩ hy)
   clear hsl hat hy
   have hk1:(0:Int)≤(k:Int):=by omega
   have hk2:(k:Int)<(M:Int):=by omega
   have hk3:k<9223372036854775807:=by omega
   generalize Sto.thru (s.take k) ⟨0,Sto.num x.v.round⟩=os at *
   have HL:Hid (os.length+1≤9223372036854775807∧(os.length+1)*otLay.bytes≤211106232532992):=zH (by
    rw[hL7.out]
    refine⟨by omega,?_⟩
    show(k+1)*72≤_
    omega)
   have HN3:Hid ((os++[(⟨y,⟨0,Sto.num x.v.round⟩⟩:Sto.Ot)]).length=k+1):=zH (by rw[List.length_append,hL7.out];rfl)
   go_wp2_with (first|refine wpList_exe (exec_lr (x:=y) (off:=o+k*3) _ (by rfl) (by rfl) (HY.out)) (by rfl) ?_|(refine wpList_akr HK rfl rfl ?_;intro _ g10 HK';simp only[lcA,lnA] at HK';replace HK:=HK';clear HK')|(refine wpList_sr HK 4 rfl _ _ rfl rfl rfl rfl ?_;intro _ HK';simp only[List.set] at HK';replace HK:=HK';clear HK')|refine wpList_exe (kexec_lr HK 4 _ (by rfl) (by rfl) (by rfl)) (by rfl) ?_|refine wpList_exe (krp HK 3 _ (by rfl) (by rfl) (by rfl)) (by rfl) ?_|refine wpList_exe (exec_bo2 (r:=y) (p:=⟨0,Sto.num x.v.round⟩) _ _ (by rfl) (by rfl) (by rfl)) (by rfl) ?_|(refine wpList_mk1 otLay (p:=⟨y,⟨0,Sto.num x.v.round⟩⟩) HK (by decide) rfl _ rfl rfl rfl ?_;intro _ g11 HK';simp only[lcA,lnA] at HK';have HR:=zH (HK'.out.own 3 rfl).rd;replace HK:=HK';clear HK')|(at_builtin;refine wpList_kmore HK otLay 2 rfl _ _ rfl rfl rfl [⟨y,⟨0,Sto.num x.v.round⟩⟩] rfl rfl HR HL (N:=k+1) HN3 ?_;intro A8 c8 _ HK';simp only[List.set] at HK';replace HK:=HK';clear HK')|refine wpList_exe (exec_add1 (j:=k) _ (by rfl) (by rfl) hk3) (by rfl) ?_)
   refine⟨⟨k+1,A8,c8,by omega,rfl,by go_num,zH (by rw[HTk.out];exact HN3.out),zH ?_⟩,by simp[intOf];omega⟩
   rw[HTk.out]
   exact(HK.out.takeL 4).takeR 3
  ·obtain rfl:k=M:=by omega
   have HFo:Hid (Fits otLay tF (Sto.thru (s.take k) ⟨0,Sto.num x.v.round⟩)):=zH (fits_ot (by rw[hL7.out];exact hM3))
   generalize hos:Sto.thru (s.take k) ⟨0,Sto.num x.v.round⟩=os at *
   have HOs:=zH hos
   clear hos
   go_wp2_with (first|(refine wpList_sor HK 0 rfl _ _ rfl rfl rfl rfl m ?_;intro _ HK';simp only[List.set] at HK';replace HK:=HK';clear HK')|refine wpList_exe (kob_d HK 0 _ (by rfl) (by rfl) (by rfl)) (by rfl) ?_|refine wpList_exe (exec_incw (x:=x.v.round) (y:=x.v.round+1) _ (by rfl) (by rfl) HInc.out) (by rfl) ?_|(refine wpList_sod HK 0 rfl _ _ rfl rfl rfl (d:=x.v.round+1) rfl ?_;intro _ HK';simp only[List.set] at HK';replace HK:=HK';clear HK')|refine wpList_exe (kob HK 0 _ (by rfl) (by rfl) (by rfl)) (by rfl) ?_|refine wpList_exe (krp HK 3 _ (by rfl) (by rfl) (by rfl)) (by rfl) ?_|refine wpList_exe (exec_b4 (p:=⟨0,Sto.num x.v.round⟩) _ _ _ (by rfl) (by rfl) (by rfl) (by rfl)) (by rfl) ?_|(refine wpList_soc HK 2 rfl _ _ rfl rfl rfl rfl ?_;intro _ HK';simp only[List.set] at HK';replace HK:=HK';clear HK'))
   exact ret_oc Tryz.results161 rfl rfl (HK.out.blk 2 rfl) ⟨_,_,_,_,_,rfl,rfl,HK.out.takeL 0,fun _ _ _ _ _ K hm=>⟨fun hb=>((HI.out.later hb).sr (Sls.own (K.mem (hm _ (List.mem_cons_self ..))) HFt.out.1)).sd HMx.out,by rw[HOs.out];exact Sls.own (K.mem (hm _ (List.mem_cons_of_mem _ (List.mem_cons_of_mem _ (List.mem_cons_self ..))))) HFo.out⟩⟩
end
end Go.Proofs.YtddpmlcpfmmbeaaGreat
