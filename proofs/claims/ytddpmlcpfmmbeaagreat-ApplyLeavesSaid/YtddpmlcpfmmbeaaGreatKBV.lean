/- What the law ApplyLeaves returns. No condition but those named. -/
import Derived.Test.YtddpmlcpfmmbeaaGreatTk
import Derived.Test.YtddpmlcpfmmbeaaGreatKBP
import Derived.Test.YtddpmlcpfmmbeaaGreatKBR
import Derived.Deep.CutBlock
import Derived.Deep.DeepCutAuto
set_option linter.unusedSimpArgs false
set_option linter.unusedVariables false
set_option maxRecDepth 100000
set_option maxHeartbeats 25600000
namespace Go.Proofs.YtddpmlcpfmmbeaaGreat
section
open Go.RowKit
section
variable {w:World}{o:Oper}{a:Act}
theorem exec_rem3{m:Int}(x:Operand)(ho:o.op=.binOp .rem 5 x (.const (.int .u8 3)) 5)(hx:a.eval x=.int .u8 m)(hm:0≤m∧m≤255):
  (execOp a.eval o).run Tryz.prog w=.ok (.value (.int .u8 (m%3))) w:=by
 have h3:Int.tmod m 3=m%3:=Int.tmod_eq_emod_of_nonneg hm.1
 unfold execOp
 simp only[ho,hx]
 go_simp
theorem exec_kE{m n:Int}{b:Bool}(x y:Operand)(ho:o.op=.binOp .eql 5 x y 5)(hx:a.eval x=.int .u8 m)(hy:a.eval y=.int .u8 n)(hb:decide (m=n)=b):
  (execOp a.eval o).run Tryz.prog w=.ok (.value (.bool b)) w:=by
 subst hb
 unfold execOp
 simp only[ho,hx,hy]
 go_simp
 exact Bool.eq_iff_iff.2 (by simp)
theorem exec_kN{m n:Int}{b:Bool}(x y:Operand)(ho:o.op=.binOp .neq 5 x y 5)(hx:a.eval x=.int .u8 m)(hy:a.eval y=.int .u8 n)(hb:(!decide (m=n))=b):
  (execOp a.eval o).run Tryz.prog w=.ok (.value (.bool b)) w:=by
 subst hb
 unfold execOp
 simp only[ho,hx,hy]
 go_simp
 exact Bool.eq_iff_iff.2 (by simp)
end
namespace Ap
structure Asks(n:Int)(l:List Sto.Ob)(t:Ses.T)(c:Int):Prop where
 ok:Ok ⟨n,l,t⟩
 hc:0≤c∧c<5
 hn:n<4611686018427387904
 e:(t.get c).ep≤4611686018427387904
 r:(t.get c).rq≤4611686018427387904
end Ap
theorem apleaves_any(n:Int)(A:Option Addr)(k cp:Nat)(t:Ses.T)(lo:List Oh)(c1 kv:Int)(w:World)(hs:Obs w A k cp lo)(hf:Ses.Fit t)(hn:n≤9223372036854775807)(hkv:0≤kv∧kv≤255):
  Calls Tryz.prog 7 #[.agg (stA n A k cp t),.int .i64 c1,.int .u8 kv] w (IsB true w):=by
 have HAw:=zH apawake_any
 have HRt:=zH (fun W (hW:Below w.heap.size w W)=>apright_any n A k cp t lo W (hs.later hW) hf)
 have HK:=kn1 w 33 (stA n A k cp t)
 unfold IsB at HAw HRt ⊢
 go_enter Tryz.func7,Tryz.ntmps7
 go_upto_region 1 with fail
 go_cut [44] (fun v wx=>∃b:Bool,v=.bool b∧Hid (b=false→Ap.Asks n (vs lo) t c1)∧Hid (Kn w.heap.size w wx [(w.heap.size,33,stA n A k cp t)] []))
 case first=>
  go_wp2_with (first|refine wpList_exe (kst HK 0 _ (by rfl) (by rfl) (by rfl)) (by rfl) ?_)
  refine(HRt.out _ HK.out.b).mono ?_;rintro en w1 ⟨rfl,b1⟩
  replace HK:=hkC HK b1;clear b1
  by_cases h0:Ap.Ok ⟨n,vs lo,t⟩
  case neg=>
   rw[decide_eq_false h0]
   go_wp2_with (first|go_big_skip)
   go_meet
   exact⟨true,rfl,zH (fun h=>by cases h),HK⟩
  case pos=>
  rw[decide_eq_true h0]
  by_cases h1:c1<0
  case pos=>
   have C1:=zH (decide_eq_true h1)
   go_wp2_with (first|go_big_skip|refine wpList_exe (exec_iL (m:=c1) (n:=0) _ _ (by rfl) (by rfl) (by rfl) C1.out) (by rfl) ?_)
   go_meet
   exact⟨true,rfl,zH (fun h=>by cases h),HK⟩
  case neg=>
  have C1:=zH (decide_eq_false h1)
  by_cases h2:5≤c1
  case pos=>
   have C2:=zH (decide_eq_true h2)
   go_wp2_with (first|go_big_skip|refine wpList_exe (exec_iL (m:=c1) (n:=0) _ _ (by rfl) (by rfl) (by rfl) C1.out) (by rfl) ?_|refine wpList_exe (exec_iGe (m:=c1) (n:=5) _ _ (by rfl) (by rfl) (by rfl) C2.out) (by rfl) ?_)
   go_meet
   exact⟨true,rfl,zH (fun h=>by cases h),HK⟩
  case neg=>
  have C2:=zH (decide_eq_false h2)
  have hc:0≤c1∧c1<5:=⟨by omega,by omega⟩
  by_cases h3:4611686018427387904≤n
  case pos=>
   have C3:=zH (decide_eq_true h3)
   go_wp2_with (first|go_big_skip|refine wpList_exe (kst_n HK 0 _ (by rfl) (by rfl) (by rfl)) (by rfl) ?_|refine wpList_exe (exec_iL (m:=c1) (n:=0) _ _ (by rfl) (by rfl) (by rfl) C1.out) (by rfl) ?_|refine wpList_exe (exec_iGe (m:=c1) (n:=5) _ _ (by rfl) (by rfl) (by rfl) C2.out) (by rfl) ?_|refine wpList_exe (exec_iGe (m:=n) (n:=4611686018427387904) _ _ (by rfl) (by rfl) (by rfl) C3.out) (by rfl) ?_)
   go_meet
   exact⟨true,rfl,zH (fun h=>by cases h),HK⟩
  case neg=>
  have C3:=zH (decide_eq_false h3)
  by_cases h4:4611686018427387904<(t.get c1).ep
  case pos=>
   have C4:=zH (decide_eq_true h4)
   go_wp2_with (first|go_big_skip|refine wpList_exe (kst_n HK 0 _ (by rfl) (by rfl) (by rfl)) (by rfl) ?_|refine wpList_exe (exec_iL (m:=c1) (n:=0) _ _ (by rfl) (by rfl) (by rfl) C1.out) (by rfl) ?_|refine wpList_exe (exec_iGe (m:=c1) (n:=5) _ _ (by rfl) (by rfl) (by rfl) C2.out) (by rfl) ?_|refine wpList_exe (exec_iGe (m:=n) (n:=4611686018427387904) _ _ (by rfl) (by rfl) (by rfl) C3.out) (by rfl) ?_|refine wpList_exe (exec_ixq hc _ _ (by rfl) (by rfl) (by rfl)) (by rfl) ?_|refine wpList_exe (kst_e HK 0 hc _ (by rfl) (by rfl) (by rfl)) (by rfl) ?_|refine wpList_exe (exec_iG (m:=(t.get c1).ep) (n:=4611686018427387904) _ _ (by rfl) (by rfl) (by rfl) C4.out) (by rfl) ?_)
   go_meet
   exact⟨true,rfl,zH (fun h=>by cases h),HK⟩
  case neg=>
  have C4:=zH (decide_eq_false h4)
  obtain⟨b,hb⟩:∃b,decide (4611686018427387904<(t.get c1).rq)=b:=⟨_,rfl⟩
  have C5:=zH hb
  go_wp2_with (first|go_big_skip|refine wpList_exe (kst_n HK 0 _ (by rfl) (by rfl) (by rfl)) (by rfl) ?_|refine wpList_exe (exec_iL (m:=c1) (n:=0) _ _ (by rfl) (by rfl) (by rfl) C1.out) (by rfl) ?_|refine wpList_exe (exec_iGe (m:=c1) (n:=5) _ _ (by rfl) (by rfl) (by rfl) C2.out) (by rfl) ?_|refine wpList_exe (exec_iGe (m:=n) (n:=4611686018427387904) _ _ (by rfl) (by rfl) (by rfl) C3.out) (by rfl) ?_|refine wpList_exe (exec_ixq hc _ _ (by rfl) (by rfl) (by rfl)) (by rfl) ?_|refine wpList_exe (kst_e HK 0 hc _ (by rfl) (by rfl) (by rfl)) (by rfl) ?_|refine wpList_exe (kst_r HK 0 hc _ (by rfl) (by rfl) (by rfl)) (by rfl) ?_|refine wpList_exe (exec_iG (m:=(t.get c1).ep) (n:=4611686018427387904) _ _ (by rfl) (by rfl) (by rfl) C4.out) (by rfl) ?_|refine wpList_exe (exec_iG (m:=(t.get c1).rq) (n:=4611686018427387904) _ _ (by rfl) (by rfl) (by rfl) C5.out) (by rfl) ?_)
  go_meet
  exact⟨b,rfl,zH (fun h=>⟨h0,hc,by omega,by omega,by subst h;have:=of_decide_eq_false hb;omega⟩),HK⟩
 case rest=>
 clear HK HRt
 obtain⟨b,rfl,HG,HK⟩:=hcut
 cases b with
 | true=>
  clear HG
  go_wp2_with fail
  refine(HAw.out _).mono ?_;rintro en w9 ⟨rfl,b1⟩;replace HK:=hkC HK b1;clear b1;go_wp2_with fail;go_ret;exact⟨rfl,HK.out.b⟩
 | false=>
 have hG:=HG.out rfl
 clear HG
 have hc:=hG.hc
 obtain⟨z,hz,hz3⟩:∃z:Int,kv%3=z∧(z=0∨z=1∨z=2):=⟨kv%3,rfl,by omega⟩
 have HZ:=zH hz
 have HRem:Hid (∀(o:Oper) (a:Act) (W:World) (x:Operand),o.op=.binOp .rem 5 x (.const (.int .u8 3)) 5→a.eval x=.int .u8 kv→(execOp a.eval o).run Tryz.prog W=.ok (.value (.int .u8 z)) W):=zH fun o a W x ho hx=>by rw[← hz];exact exec_rem3 x ho hx hkv
 go_upto_block 0 with (first|refine wpList_exe (exec_ixq hc _ _ (by rfl) (by rfl) (by rfl)) (by rfl) ?_|refine wpList_exe (kst_s HK 0 hc _ (by rfl) (by rfl) (by rfl)) (by rfl) ?_|(refine wpList_ase HK rfl rfl ?_;intro _ g7 HK';simp only[lcA,lnA] at HK';replace HK:=HK';clear HK')|(refine wpList_sse (u:=t.get c1) HK 1 rfl _ _ rfl rfl rfl rfl ?_;intro _ HK';simp only[List.set] at HK';replace HK:=HK';clear HK')|refine wpList_exe (kse_e HK 1 _ (by rfl) (by rfl) (by rfl)) (by rfl) ?_|(refine wpList_akev HK rfl rfl ?_;intro _ g8 HK';simp only[lcA,lnA] at HK';replace HK:=HK';clear HK')|(refine wpList_sev (e2:=⟨c1,(t.get c1).ep,0,Ap.small 18⟩) HK 2 rfl _ _ rfl rfl rfl rfl ?_;intro _ HK' _;simp only[List.set] at HK';replace HK:=HK';clear HK')|refine wpList_exe (HRem.out _ _ _ _ (by rfl) (by rfl)) (by rfl) ?_)
 try simp only[ap1,ap2,ap3,ap4,ap5]
 go_cut [58,69] (fun v58 v69 wx=>∃ev:Cmd.E,Hid (eF ev)∧Hid (((t.get c1).ep=0→z=2)→(z=1→(t.get c1).dn=true)→Ap.Nowhere (Ap.apS ⟨n,vs lo,t⟩ ev).l c1∧(Ap.apS ⟨n,vs lo,t⟩ ev).n=n+1∧(¬z=2→((Ap.apS ⟨n,vs lo,t⟩ ev).t.get c1).live=false))∧Hid (Kn w.heap.size w wx [(w.heap.size,33,stA n A k cp t),(g7,30,seA (t.get c1)),(g8,39,evA ev)] []))
 case first=>
  have hfl:∀k:Int,(Ap.small k).val.f<18446744073709551616∧(Ap.small k).old.f<18446744073709551616:=fun k=>⟨by show(0:Nat)<_;decide,by show(0:Nat)<_;decide⟩
  rcases hz3 with h|h|h
  ·have Z1:Hid (decide (z=1)=false):=zH (decide_eq_false (by omega))
   have Z2:Hid (decide (z=2)=false):=zH (decide_eq_false (by omega))
   have hh:=zH h
   clear h
   go_wp2_with (first|refine wpList_exe (exec_kE (m:=z) (n:=1) _ _ (by rfl) (by rfl) (by rfl) Z1.out) (by rfl) ?_|refine wpList_exe (exec_kE (m:=z) (n:=2) _ _ (by rfl) (by rfl) (by rfl) Z2.out) (by rfl) ?_)
   try simp only[ap1,ap2,ap3,ap4,ap5]
   go_meet
   exact⟨_,zH ⟨(hfl 18).1,(hfl 18).2,by show(0:Int)≤_;decide⟩,zH (fun h1 h2=>by
    have g:=Ap.leaves_0 hG.ok hc hG.hn (fun g=>by have:=h1 g;have:=hh.out;omega)
    exact⟨g.1,g.2.1,fun _=>g.2.2⟩),HK⟩
  ·have Z1:Hid (decide (z=1)=true):=zH (decide_eq_true h)
   have hh:=zH h
   clear h
   have HW:Hid (IntKind.i64.wrap ((t.get c1).rq+1)=(t.get c1).rq+1):=zH (by
    have h1:=hG.r
    have h2:=Ses.right_one hG.ok.t hc
    have h3:0≤(t.get c1).rq:=by
     by_cases he:(t.get c1).ep=0
     ·rw[Ses.one_zero h2 he];decide
     ·exact(Ses.one_pos h2 he).2.2.1
    rw[IntKind.wrap_i64];omega)
   go_wp2_with (first|refine wpList_exe (exec_kE (m:=z) (n:=1) _ _ (by rfl) (by rfl) (by rfl) Z1.out) (by rfl) ?_|refine wpList_exe (kse_e HK 1 _ (by rfl) (by rfl) (by rfl)) (by rfl) ?_|refine wpList_exe (kse_r HK 1 _ (by rfl) (by rfl) (by rfl)) (by rfl) ?_|refine wpList_exe (exec_incz (m:=(t.get c1).rq) _ (by rfl) (by rfl) HW.out) (by rfl) ?_|(refine wpList_sev (e2:=⟨c1,(t.get c1).ep,(t.get c1).rq+1,Ap.small 2⟩) HK 2 rfl _ _ rfl rfl rfl rfl ?_;intro _ HK' _;simp only[List.set] at HK';replace HK:=HK';clear HK'))
   try simp only[ap1,ap2,ap3,ap4,ap5]
   go_meet
   exact⟨_,zH ⟨(hfl 2).1,(hfl 2).2,by have:=hG.r;show(t.get c1).rq+1≤_;omega⟩,zH (fun h1 h2=>by
    have g:=Ap.leaves_1 hG.ok hc hG.hn (fun g=>by have:=h1 g;have:=hh.out;omega) (h2 hh.out)
    exact⟨g.1,g.2.1,fun _=>g.2.2⟩),HK⟩
  ·have Z1:Hid (decide (z=1)=false):=zH (decide_eq_false (by omega))
   have Z2:Hid (decide (z=2)=true):=zH (decide_eq_true h)
   have hh:=zH h
   clear h
   have HW:Hid (IntKind.i64.wrap ((t.get c1).ep+1)=(t.get c1).ep+1):=zH (by
    have h1:=hG.e
    have h2:=Ses.right_one hG.ok.t hc
    have h3:0≤(t.get c1).ep:=by
     by_cases he:(t.get c1).ep=0
     ·omega
     ·have h4:0<(t.get c1).ep:=(Ses.one_pos h2 he).2.1
      omega
    rw[IntKind.wrap_i64];omega)
   go_wp2_with (first|refine wpList_exe (exec_kE (m:=z) (n:=1) _ _ (by rfl) (by rfl) (by rfl) Z1.out) (by rfl) ?_|refine wpList_exe (exec_kE (m:=z) (n:=2) _ _ (by rfl) (by rfl) (by rfl) Z2.out) (by rfl) ?_|refine wpList_exe (kse_e HK 1 _ (by rfl) (by rfl) (by rfl)) (by rfl) ?_|refine wpList_exe (exec_incz (m:=(t.get c1).ep) _ (by rfl) (by rfl) HW.out) (by rfl) ?_|(refine wpList_sev (e2:=⟨c1,(t.get c1).ep+1,0,Ap.small 1⟩) HK 2 rfl _ _ rfl rfl rfl rfl ?_;intro _ HK' _;simp only[List.set] at HK';replace HK:=HK';clear HK'))
   try simp only[ap1,ap2,ap3,ap4,ap5]
   go_meet
   exact⟨_,zH ⟨(hfl 1).1,(hfl 1).2,by show(0:Int)≤_;decide⟩,zH (fun h1 h2=>by
    have g:=Ap.leaves_2 hG.ok hc hG.hn
    exact⟨g.1,g.2,fun q=>absurd hh.out q⟩),HK⟩
 case rest=>
 clear HK
 obtain⟨ev,HEf,HEv,HK⟩:=hcut
 obtain⟨q1,hq1⟩:∃q,decide ((t.get c1).ep=0)=q:=⟨_,rfl⟩
 obtain⟨q2,hq2⟩:∃q,decide (z=2)=q:=⟨_,rfl⟩
 obtain⟨q3,hq3⟩:∃q,decide (z=1)=q:=⟨_,rfl⟩
 obtain⟨q4,hq4⟩:∃q,(t.get c1).dn=q:=⟨_,rfl⟩
 have Q1:=zH hq1
 have Q2:=zH hq2
 have Q2n:Hid ((!decide (z=2))=!q2):=zH (by rw[hq2])
 have Q3:=zH hq3
 have Q4:=zH hq4
 have HGo:Hid (¬(q1=true∧q2=false)→¬(q3=true∧q4=false)→((t.get c1).ep=0→z=2)∧(z=1→(t.get c1).dn=true)):=zH fun g1 g2=>by
  subst hq1 hq2 hq3 hq4
  refine⟨fun h=>Decidable.byContradiction fun h2=>g1 ⟨decide_eq_true h,decide_eq_false h2⟩,fun h=>?_⟩
  cases hd:(t.get c1).dn with
  | true=>rfl
  | false=>exact absurd ⟨decide_eq_true h,hd⟩ g2
 have hn9:n≤9223372036854775807:=hn
 have HAp:=zH (fun W (hW:Below w.heap.size w W)=>apapply_any n A k cp t lo ev W (hs.later hW) hf HEf.out.1 HEf.out.2.1 HEf.out.2.2 hn9)
 have HW1:Hid (IntKind.i64.wrap (n+1)=n+1):=zH (by have h1:=hG.hn;have h2:0≤n:=hG.ok.n;rw[IntKind.wrap_i64];omega)
 unfold IsSt at HAp
 clear hs hf hn hkv hG hz hz3 HZ hq1 hq2 hq3 hq4 hn9 HEf
 generalize Ap.apS ⟨n,vs lo,t⟩ ev=s2 at *
 generalize Ap.apO ⟨n,vs lo,t⟩ ev=os at *
 obtain⟨n2,l2,t2⟩:=s2
 dsimp only at *
 go_upto_region 10 with fail
 go_cut [95] (fun v wx=>∃b:Bool,v=.bool b∧Hid (b=false→((t.get c1).ep=0→z=2)∧(z=1→(t.get c1).dn=true))∧Hid (Kn w.heap.size w wx [(w.heap.size,33,stA n A k cp t),(g7,30,seA (t.get c1)),(g8,39,evA ev)] []))
 case first=>
  clear HEv HAp
  cases q1<;>cases q2<;>cases q3<;>cases q4
  all_goals
   go_wp2_with (first|go_big_skip|refine wpList_exe (kse_e HK 1 _ (by rfl) (by rfl) (by rfl)) (by rfl) ?_|refine wpList_exe (exec_iE (m:=(t.get c1).ep) (n:=0) _ _ (by rfl) (by rfl) (by rfl) Q1.out) (by rfl) ?_|refine wpList_exe (HRem.out _ _ _ _ (by rfl) (by rfl)) (by rfl) ?_|refine wpList_exe (exec_kN (m:=z) (n:=2) _ _ (by rfl) (by rfl) (by rfl) Q2n.out) (by rfl) ?_|refine wpList_exe ((kse_d HK 1 _ (by rfl) (by rfl) (by rfl)).trans (by rw[Q4.out])) (by rfl) ?_|refine wpList_exe (exec_kE (m:=z) (n:=1) _ _ (by rfl) (by rfl) (by rfl) Q3.out) (by rfl) ?_)
   go_meet
   first|exact⟨true,rfl,zH (fun h=>by cases h),HK⟩|exact⟨false,rfl,zH (fun _=>HGo.out (by simp) (by simp)),HK⟩
 case rest=>
 clear HK HGo
 obtain⟨b,rfl,HG,HK⟩:=hcut
 cases b with
 | true=>
  clear HG HEv HAp
  go_wp2_with fail
  refine(HAw.out _).mono ?_;rintro en w9 ⟨rfl,b1⟩;replace HK:=hkC HK b1;clear b1;go_wp2_with fail;go_ret;exact⟨rfl,HK.out.b⟩
 | false=>
 obtain⟨g1,g2⟩:=HG.out rfl
 obtain⟨hno,hn2,hlv⟩:=HEv.out g1 g2
 have HNo:=zH hno
 have HN2:=zH (decide_eq_true hn2)
 have HLv:Hid (q2=false→(t2.get c1).live=false):=zH fun h=>hlv (by rw[h] at Q2;exact of_decide_eq_false Q2.out)
 clear HG HEv g1 g2 hno hn2 hlv
 go_wp2_with (first|refine wpList_exe (kst HK 0 _ (by rfl) (by rfl) (by rfl)) (by rfl) ?_|refine wpList_exe (kexec_ee HK 2 _ (by rfl) (by rfl) (by rfl)) (by rfl) ?_)
 refine(HAp.out _ HK.out.b).mono ?_;rintro en w5 ⟨A2,k2,c2,lo2,O2,m2,d2,R2,rfl,HV2,j2,HI2⟩
 replace HK:=zH (HK.out.join j2)
 simp only[lnA] at HK
 clear j2 HAp
 have HOb:Hid (∀W L,Kn w.heap.size w W L R2→Obs W A2 k2 c2 lo2):=zH fun W L K=>(HI2.out _ _ _ _ _ K (fun z hz=>hz) trivial).1
 have hk63:k2<9223372036854775807:=by
  have h:k2*144≤140737488355328:=(HOb.out _ _ HK.out).s.big
  omega
 have HNw:Hid (∀(i:Nat) x,lo2[i]?=some x→∀(j:Nat) r,x.v.refs[j]?=some r→¬r.c=c1):=zH fun i x hx j r hr=>HNo.out x.v (by rw[← HV2.out];exact List.mem_map.2 ⟨x,List.mem_of_getElem? hx,rfl⟩) r (List.mem_of_getElem? hr)
 clear HNo HI2 HV2
 go_wp2_with (first|(refine wpList_ast HK rfl rfl ?_;intro _ g9 HK';simp only[lcA,lnA] at HK';replace HK:=HK';clear HK')|(refine wpList_sst HK 3 rfl _ _ rfl rfl rfl rfl ?_;intro _ HK';simp only[List.set] at HK';replace HK:=HK';clear HK'))
 go_loopw [11] (fun v11 wr=>∃i:Nat,i≤k2∧v11=.int .i64 i∧Hid (Kn w.heap.size w wr [(w.heap.size,33,stA n A k cp t),(g7,30,seA (t.get c1)),(g8,39,evA ev),(g9,33,stA n2 A2 k2 c2 t2)] R2)) (fun v11 _=>k2-(intOf v11).toNat)
 case atStart=>exact⟨0,Nat.zero_le _,rfl,HK⟩
 case round=>
  clear HK
  obtain⟨i,hi,rfl,HK⟩:=hrel
  have hi1:(0:Int)≤(i:Int):=by omega
  by_cases hik:i<k2
  case neg=>
   obtain rfl:i=k2:=by omega
   have hi2:¬(i:Int)<(i:Int):=by omega
   clear HNw HOb
   go_wp2_with (first|refine wpList_exe (kst_o HK 3 _ (by rfl) (by rfl) (by rfl)) (by rfl) ?_)
   refine(HAw.out _).mono ?_;rintro en w9 ⟨rfl,b1⟩
   replace HK:=hkC HK b1;clear b1
   cases q2 with
   | true=>
    go_wp2_with (first|go_big_skip|refine wpList_exe (kst_n HK 3 _ (by rfl) (by rfl) (by rfl)) (by rfl) ?_|refine wpList_exe (kst_n HK 0 _ (by rfl) (by rfl) (by rfl)) (by rfl) ?_|refine wpList_exe (exec_incz (m:=n) (n:=n+1) _ (by rfl) (by rfl) HW1.out) (by rfl) ?_|refine wpList_exe (exec_iE (m:=n2) (n:=n+1) _ _ (by rfl) (by rfl) (by rfl) HN2.out) (by rfl) ?_|refine wpList_exe (HRem.out _ _ _ _ (by rfl) (by rfl)) (by rfl) ?_|refine wpList_exe (exec_kE (m:=z) (n:=2) _ _ (by rfl) (by rfl) (by rfl) Q2.out) (by rfl) ?_)
    go_ret
    exact⟨rfl,HK.out.b⟩
   | false=>
    have HL:=zH (HLv.out rfl)
    go_wp2_with (first|go_big_skip|refine wpList_exe (kst_n HK 3 _ (by rfl) (by rfl) (by rfl)) (by rfl) ?_|refine wpList_exe (kst_n HK 0 _ (by rfl) (by rfl) (by rfl)) (by rfl) ?_|refine wpList_exe (exec_incz (m:=n) (n:=n+1) _ (by rfl) (by rfl) HW1.out) (by rfl) ?_|refine wpList_exe (exec_iE (m:=n2) (n:=n+1) _ _ (by rfl) (by rfl) (by rfl) HN2.out) (by rfl) ?_|refine wpList_exe (HRem.out _ _ _ _ (by rfl) (by rfl)) (by rfl) ?_|refine wpList_exe (exec_kE (m:=z) (n:=2) _ _ (by rfl) (by rfl) (by rfl) Q2.out) (by rfl) ?_|refine wpList_exe (exec_ixq hc _ _ (by rfl) (by rfl) (by rfl)) (by rfl) ?_|refine wpList_exe ((kst_l HK 3 hc _ (by rfl) (by rfl) (by rfl)).trans (by rw[HL.out])) (by rfl) ?_)
    go_ret
    exact⟨rfl,HK.out.b⟩
  case pos=>
  have hi2:(i:Int)<(k2:Int):=by omega
  have hi3:i<9223372036854775807:=by omega
  have hob:=HOb.out _ _ HK.out
  obtain⟨x,hx,hin⟩:=hob.get hik
  obtain⟨b,o,rfl,_⟩:=hob.s.at (Nat.lt_of_le_of_lt (Nat.zero_le _) hik)
  have HX:Hid (∀W L,Kn w.heap.size w W L R2→∀q v,(obL x)[q]?=some v→W.cell? ⟨b,o+i*11+q,none⟩=some v):=zH fun W L K=>(HOb.out W L K).s.cells hx
  have HR:Hid (∀W L,Kn w.heap.size w W L R2→Sls rfLay rF W x.rA x.rn x.rc x.v.refs):=zH fun W L K=>((HOb.out W L K).i x (List.mem_of_getElem? hx)).r
  have HNx:=zH (HNw.out i x hx)
  have hr63:x.rn<9223372036854775807:=by
   have h:x.rn*24≤140737488355328:=hin.r.big
   omega
  clear hob hx hin
  obtain⟨xv,pA,pn,pc,vA,vn,vc,rA,rn,rc⟩:=x
  dsimp only at HR HNx hr63
  go_wp2_with (first|refine wpList_exe (kst_o HK 3 _ (by rfl) (by rfl) (by rfl)) (by rfl) ?_)
  go_loopw [12] (fun v12 wi=>∃j:Nat,j≤rn∧v12=.int .i64 j∧Hid (Kn w.heap.size w wi [(w.heap.size,33,stA n A k cp t),(g7,30,seA (t.get c1)),(g8,39,evA ev),(g9,33,stA n2 (some ⟨b,o,none⟩) k2 c2 t2)] R2)) (fun v12 _=>rn-(intOf v12).toNat)
  case atStart=>exact⟨0,Nat.zero_le _,rfl,HK⟩
  case round=>
   clear HK
   obtain⟨j,hj,rfl,HK⟩:=hrel
   have hj1:(0:Int)≤(j:Int):=by omega
   by_cases hjr:j<rn
   case neg=>
    obtain rfl:j=rn:=by omega
    have hj2:¬(j:Int)<(j:Int):=by omega
    go_wp2_with (first|refine wpList_exe (kst_o HK 3 _ (by rfl) (by rfl) (by rfl)) (by rfl) ?_|refine wpList_exe (exec_ixo (i:=i) _ _ (by rfl) (by rfl) (by rfl) hik) (by rfl) ?_|refine wpList_exe (exec_obr (off:=o+i*11) _ (by rfl) (by rfl) (HX.out _ _ HK.out)) (by rfl) ?_|refine wpList_exe (exec_add1 (j:=i) _ (by rfl) (by rfl) hi3) (by rfl) ?_)
    exact⟨⟨i+1,hik,rfl,HK⟩,by simp[intOf];omega⟩
   case pos=>
   have hj2:(j:Int)<(rn:Int):=by omega
   have hj3:j<9223372036854775807:=by omega
   have hsl:=HR.out _ _ HK.out
   obtain⟨y,hy,_⟩:=hsl.get hjr
   obtain⟨b2,o2,rfl,_⟩:=hsl.at (Nat.lt_of_le_of_lt (Nat.zero_le _) hjr)
   have HY:Hid (∀W L,Kn w.heap.size w W L R2→∀q v,(rfL y)[q]?=some v→W.cell? ⟨b2,o2+j*3+q,none⟩=some v):=zH fun W L K=>(HR.out W L K).cells hy
   have HE:=zH (decide_eq_false (HNx.out j y hy))
   clear hsl hy
   go_wp2_with (first|refine wpList_exe (kst_o HK 3 _ (by rfl) (by rfl) (by rfl)) (by rfl) ?_|refine wpList_exe (exec_ixo (i:=i) _ _ (by rfl) (by rfl) (by rfl) hik) (by rfl) ?_|refine wpList_exe (exec_obr (off:=o+i*11) _ (by rfl) (by rfl) (HX.out _ _ HK.out)) (by rfl) ?_|refine wpList_exe (exec_slx rfLay (i:=j) _ _ (by rfl) (by rfl) (by rfl) hjr) (by rfl) ?_|refine wpList_exe (exec_lrc (x:=y) (off:=o2+j*3) _ (by rfl) (by rfl) (HY.out _ _ HK.out)) (by rfl) ?_|refine wpList_exe (exec_iE (m:=y.c) (n:=c1) _ _ (by rfl) (by rfl) (by rfl) HE.out) (by rfl) ?_|refine wpList_exe (exec_add1 (j:=j) _ (by rfl) (by rfl) hj3) (by rfl) ?_)
   exact⟨⟨j+1,hjr,rfl,HK⟩,by simp[intOf];omega⟩
end
end Go.Proofs.YtddpmlcpfmmbeaaGreat
