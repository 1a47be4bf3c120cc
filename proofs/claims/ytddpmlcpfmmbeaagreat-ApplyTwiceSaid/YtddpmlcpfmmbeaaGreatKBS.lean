/- What the law ApplyTwice returns. No condition but those named. -/
import Derived.Test.YtddpmlcpfmmbeaaGreatTk
import Derived.Test.YtddpmlcpfmmbeaaGreatKBP
import Derived.Test.YtddpmlcpfmmbeaaGreatKBR
set_option linter.unusedSimpArgs false
set_option linter.unusedVariables false
set_option maxRecDepth 100000
set_option maxHeartbeats 25600000
namespace Go.Proofs.YtddpmlcpfmmbeaaGreat
section
open Go.RowKit
theorem exec_subw{w:World}{o:Oper}{a:Act}{m n r:Int}(x y:Operand)(ho:o.op=.binOp .sub 3 x y 3)(hx:a.eval x=.int .i64 m)(hy:a.eval y=.int .i64 n)(hw:IntKind.i64.wrap (m-n)=r):
  (execOp a.eval o).run Tryz.prog w=.ok (.value (.int .i64 r)) w:=by
 subst hw
 unfold execOp
 simp only[ho,hx,hy]
 go_simp
theorem aptwice_any(n:Int)(A:Option Addr)(k cp:Nat)(t:Ses.T)(lo:List Oh)(e:Cmd.E)(w:World)(hs:Obs w A k cp lo)(hf:Ses.Fit t)(he:eF e)(hn:n≤9223372036854775807):
  Calls Tryz.prog 5 #[.agg (stA n A k cp t),.agg (evA e)] w (IsB true w):=by
 have HAw:=zH apawake_any
 have HRt:=zH (fun W (hW:Below w.heap.size w W)=>apright_any n A k cp t lo W (hs.later hW) hf)
 have HK:=kn2 w 33 (stA n A k cp t) 39 (evA e)
 unfold IsB at HAw HRt ⊢
 by_cases hok:Ap.Ok ⟨n,vs lo,t⟩
 case neg=>
  rw[decide_eq_false hok] at HRt
  clear hs hf he hn hok
  go_enter Tryz.func5,Tryz.ntmps5
  go_wp2_with (first|refine wpList_exe (kst HK 0 _ (by rfl) (by rfl) (by rfl)) (by rfl) ?_)
  refine(HRt.out _ HK.out.b).mono ?_;rintro en w1 ⟨rfl,b1⟩
  replace HK:=hkC HK b1;clear b1
  go_wp2_with fail
  refine(HAw.out _).mono ?_;rintro en w9 ⟨rfl,b1⟩;replace HK:=hkC HK b1;clear b1
  go_wp2_with fail
  go_ret
  exact⟨rfl,HK.out.b⟩
 case pos=>
 rw[decide_eq_true hok] at HRt
 by_cases hbig:4611686018427387904≤n
 case pos=>
  have HB:Hid (decide (4611686018427387904≤n)=true):=zH (decide_eq_true hbig)
  clear hs hf he hn hok hbig
  go_enter Tryz.func5,Tryz.ntmps5
  go_wp2_with (first|refine wpList_exe (kst HK 0 _ (by rfl) (by rfl) (by rfl)) (by rfl) ?_)
  refine(HRt.out _ HK.out.b).mono ?_;rintro en w1 ⟨rfl,b1⟩
  replace HK:=hkC HK b1;clear b1
  go_wp2_with (first|refine wpList_exe (kst_n HK 0 _ (by rfl) (by rfl) (by rfl)) (by rfl) ?_|refine wpList_exe (exec_iGe (m:=n) (n:=4611686018427387904) _ _ (by rfl) (by rfl) (by rfl) HB.out) (by rfl) ?_)
  refine(HAw.out _).mono ?_;rintro en w9 ⟨rfl,b1⟩;replace HK:=hkC HK b1;clear b1
  go_wp2_with fail
  go_ret
  exact⟨rfl,HK.out.b⟩
 case neg=>
 have HB:Hid (decide (4611686018427387904≤n)=false):=zH (decide_eq_false hbig)
 have hn0:0≤n:=hok.n
 obtain⟨q1,q2,q3,q4,q5⟩:=Ap.ap_twice hok (by show n<_;omega) e
 have HAp1:=zH (fun W (hW:Below w.heap.size w W)=>apapply_any n A k cp t lo e W (hs.later hW) hf he.1 he.2.1 he.2.2 hn)
 have hft:=Ap.ap_fit (s:=⟨n,vs lo,t⟩) (obs_float hs) hf e
 have hn2:=Ap.ap_n ⟨n,vs lo,t⟩ e
 generalize Ap.apS ⟨n,vs lo,t⟩ e=s2 at *
 generalize Ap.apO ⟨n,vs lo,t⟩ e=os at *
 obtain⟨n2,l2,t2⟩:=s2
 have HAp2:Hid (∀A2 k2 c2 lo2 W,vs lo2=l2→Obs W A2 k2 c2 lo2→Calls Tryz.prog 10 #[.agg (stA n2 A2 k2 c2 t2),.agg (evA e)] W (IsSt (fun _=>True) (Ap.apS ⟨n2,l2,t2⟩ e) (Ap.apO ⟨n2,l2,t2⟩ e) W)):=zH fun A2 k2 c2 lo2 W h1 h2=>by
  have h:=apapply_any n2 A2 k2 c2 t2 lo2 e W h2 hft he.1 he.2.1 he.2.2 (by have:n2≤n+1:=hn2.2;omega)
  rw[h1] at h
  exact h
 generalize Ap.apS ⟨n2,l2,t2⟩ e=s3 at *
 generalize Ap.apO ⟨n2,l2,t2⟩ e=os2 at *
 obtain⟨n3,l3,t3⟩:=s3
 dsimp only at *
 subst q2 q3
 have HW1:Hid (IntKind.i64.wrap (n3-n2)=n2-n):=zH (by rw[q1,IntKind.wrap_i64];omega)
 have HW2:Hid (IntKind.i64.wrap (n2-n)=n2-n):=zH (by rw[IntKind.wrap_i64];omega)
 have HOw:=zH (fun O m d os W h=>own_any O m d os (Ap.ref e) W h)
 have HSm:=zH (fun A2 B2 k2 c2 k3 c3 a b W h1 h2 h3=>apsame_yes n2 A2 B2 k2 c2 k3 c3 t3 a b W h1 h2 h3)
 have HNe:Hid ((!decide (n2-n=n2-n))=false):=zH (by rw[decide_eq_true rfl];rfl)
 have HTw:Hid (Ap.ownB os (Ap.ref e)=true→¬e.cmd.k=18→Ap.ownB os2 (Ap.ref e)=true∧Ap.ownP os2 (Ap.ref e)=Ap.ownP os (Ap.ref e)):=zH fun h1 h2=>by
  have h:=q5 h2 _ (Ap.own_some h1)
  unfold Ap.ownB Ap.ownP
  rw[h]
  exact⟨rfl,rfl⟩
 have HL1:=zH q4
 unfold IsB at HSm
 unfold IsSt at HAp1 HAp2
 dsimp only at HAp1 HAp2
 clear hs hf he hn hok hbig hn0 q1 q4 q5 hft hn2
 generalize hB1:Ap.ownB os (Ap.ref e)=B1 at *
 generalize hP1:Ap.ownP os (Ap.ref e)=P1 at *
 generalize hB2:Ap.ownB os2 (Ap.ref e)=B2 at *
 generalize hP2:Ap.ownP os2 (Ap.ref e)=P2 at *
 have HE1:=zH (And.intro hB1 hP1)
 have HE2:=zH (And.intro hB2 hP2)
 clear hB1 hP1 hB2 hP2
 go_enter Tryz.func5,Tryz.ntmps5
 go_wp2_with (first|refine wpList_exe (kst HK 0 _ (by rfl) (by rfl) (by rfl)) (by rfl) ?_)
 refine(HRt.out _ HK.out.b).mono ?_;rintro en w1 ⟨rfl,b1⟩
 replace HK:=hkC HK b1;clear b1
 go_wp2_with (first|refine wpList_exe (kst_n HK 0 _ (by rfl) (by rfl) (by rfl)) (by rfl) ?_|refine wpList_exe (exec_iGe (m:=n) (n:=4611686018427387904) _ _ (by rfl) (by rfl) (by rfl) HB.out) (by rfl) ?_|refine wpList_exe (kst HK 0 _ (by rfl) (by rfl) (by rfl)) (by rfl) ?_|refine wpList_exe (kexec_ee HK 1 _ (by rfl) (by rfl) (by rfl)) (by rfl) ?_)
 refine(HAp1.out _ HK.out.b).mono ?_;rintro en w5 ⟨A2,k2,c2,lo2,O2,m2,d2,R2,rfl,HV2,j2,HI2⟩
 replace HK:=zH (HK.out.join j2)
 simp only[lnA] at HK
 clear j2 HAp1 HRt
 go_wp2_with (first|(refine wpList_ast HK rfl rfl ?_;intro _ g5 HK';simp only[lcA,lnA] at HK';replace HK:=HK';clear HK')|(refine wpList_sst HK 2 rfl _ _ rfl rfl rfl rfl ?_;intro _ HK';simp only[List.set] at HK';replace HK:=HK';clear HK')|refine wpList_exe (kst HK 2 _ (by rfl) (by rfl) (by rfl)) (by rfl) ?_|refine wpList_exe (kexec_ee HK 1 _ (by rfl) (by rfl) (by rfl)) (by rfl) ?_)
 refine(HAp2.out A2 k2 c2 lo2 _ HV2.out (HI2.out _ _ _ _ _ HK.out (fun z hz=>hz) trivial).1).mono ?_;rintro en w6 ⟨A3,k3,c3,lo3,O3,m3,d3,R3,rfl,HV3,j3,HI3⟩
 replace HK:=zH (HK.out.join j3)
 clear j3 HAp2
 go_wp2_with (first|(refine wpList_ast HK rfl rfl ?_;intro _ g7 HK';simp only[lcA,lnA] at HK';replace HK:=HK';clear HK')|(refine wpList_sst HK 3 rfl _ _ rfl rfl rfl rfl ?_;intro _ HK';simp only[List.set] at HK';replace HK:=HK';clear HK')|refine wpList_exe (kexec_eref HK 1 _ (by rfl) (by rfl) (by rfl)) (by rfl) ?_)
 refine(HOw.out O2 m2 d2 os _ (HI2.out _ _ _ _ _ HK.out (fun z hz=>List.mem_append.2 (.inl hz)) trivial).2).mono ?_;rintro en w7 ⟨rfl,b1⟩
 replace HK:=hkC HK b1;clear b1
 rw[HE1.out.1,HE1.out.2]
 go_wp2_with (first|(refine wpList_arp HK rfl rfl ?_;intro _ g9 HK';simp only[lcA,lnA] at HK';replace HK:=HK';clear HK')|(refine wpList_srp (q:=P1) HK 4 rfl _ _ rfl rfl rfl rfl ?_;intro _ HK';simp only[List.set] at HK';replace HK:=HK';clear HK')|refine wpList_exe (kexec_eref HK 1 _ (by rfl) (by rfl) (by rfl)) (by rfl) ?_)
 refine(HOw.out O3 m3 d3 os2 _ (HI3.out _ _ _ _ _ HK.out (fun z hz=>List.mem_append.2 (.inr hz)) trivial).2).mono ?_;rintro en w8 ⟨rfl,b1⟩
 replace HK:=hkC HK b1;clear b1
 rw[HE2.out.1,HE2.out.2]
 go_wp2_with (first|(refine wpList_arp HK rfl rfl ?_;intro _ g11 HK';simp only[lcA,lnA] at HK';replace HK:=HK';clear HK')|(refine wpList_srp (q:=P2) HK 5 rfl _ _ rfl rfl rfl rfl ?_;intro _ HK';simp only[List.set] at HK';replace HK:=HK';clear HK')|refine wpList_exe (kst_n HK 3 _ (by rfl) (by rfl) (by rfl)) (by rfl) ?_|refine wpList_exe (kst_n HK 2 _ (by rfl) (by rfl) (by rfl)) (by rfl) ?_|refine wpList_exe (kst_n HK 0 _ (by rfl) (by rfl) (by rfl)) (by rfl) ?_|refine wpList_exe (exec_subw (m:=n3) (n:=n2) _ _ (by rfl) (by rfl) (by rfl) HW1.out) (by rfl) ?_|refine wpList_exe (exec_subw (m:=n2) (n:=n) _ _ (by rfl) (by rfl) (by rfl) HW2.out) (by rfl) ?_|refine wpList_exe (exec_iN (m:=n2-n) (n:=n2-n) _ _ (by rfl) (by rfl) (by rfl) HNe.out) (by rfl) ?_|(refine wpList_sstn (m:=n2) HK 3 rfl _ _ rfl rfl rfl rfl ?_;intro _ HK';simp only[List.set] at HK';replace HK:=HK';clear HK'))
 refine(HAw.out _).mono ?_;rintro en w9 ⟨rfl,b1⟩;replace HK:=hkC HK b1;clear b1
 go_wp2_with (first|refine wpList_exe (kst HK 2 _ (by rfl) (by rfl) (by rfl)) (by rfl) ?_|refine wpList_exe (kst HK 3 _ (by rfl) (by rfl) (by rfl)) (by rfl) ?_)
 refine(HSm.out A2 A3 k2 c2 k3 c3 lo2 lo3 _ (HI2.out _ _ _ _ _ HK.out (fun z hz=>List.mem_append.2 (.inl hz)) trivial).1 (HI3.out _ _ _ _ _ HK.out (fun z hz=>List.mem_append.2 (.inr hz)) trivial).1 (by rw[HV2.out,HV3.out])).mono ?_;rintro en w9 ⟨rfl,b1⟩
 replace HK:=hkC HK b1;clear b1
 have hm3:(m3:Int)≤1:=by
  have h:=(HI3.out _ _ _ _ _ HK.out (fun z hz=>List.mem_append.2 (.inr hz)) trivial).2.len
  have h2:=HL1.out
  omega
 cases B1 with
 | false=>
  clear HTw
  go_wp2_with fail
  go_ret
  exact⟨rfl,HK.out.b⟩
 | true=>
 by_cases h18:e.cmd.k=18
 case pos=>
  have fk:=HK.out.cell 1 rfl 3 (v:=.int .i64 e.cmd.k) rfl
  rw[h18] at fk
  clear HTw
  go_wp2_with fail
  go_ret
  exact⟨rfl,HK.out.b⟩
 case neg=>
 obtain⟨e1,e2⟩:=HTw.out rfl h18
 subst e1 e2
 have HK18:Hid (decide (e.cmd.k=18)=false):=zH (decide_eq_false h18)
 clear HTw h18
 go_wp2_with (first|refine wpList_exe (kev_k (e:=e) HK 1 _ (by rfl) (by rfl) (by rfl)) (by rfl) ?_|refine wpList_exe (exec_iE (m:=e.cmd.k) (n:=18) _ _ (by rfl) (by rfl) (by rfl) HK18.out) (by rfl) ?_|refine wpList_exe (krp HK 4 _ (by rfl) (by rfl) (by rfl)) (by rfl) ?_|refine wpList_exe (krp HK 5 _ (by rfl) (by rfl) (by rfl)) (by rfl) ?_|refine wpList_exe (exec_rpe (p:=P2) (q:=P2) (b:=true) _ _ (by rfl) (by rfl) (by rfl) (decide_eq_true rfl)) (by rfl) ?_)
 go_ret
 exact⟨rfl,HK.out.b⟩
end
end Go.Proofs.YtddpmlcpfmmbeaaGreat
