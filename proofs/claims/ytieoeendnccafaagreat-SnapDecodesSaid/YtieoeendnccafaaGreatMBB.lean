/- What session.Look and the document's Look return. No condition but those named. -/
import Derived.Test.YtieoeendnccafaaGreatMTK
import Derived.Test.YtieoeendnccafaaGreatMBA
import Derived.Test.YtieoeendnccafaaGreatMAL
import Derived.Deep.DeepCutAuto
set_option linter.unusedSimpArgs false
set_option linter.unusedVariables false
set_option maxRecDepth 100000
set_option maxHeartbeats 25600000
namespace Go.Proofs.YtieoeendnccafaaGreat
section
open Go.RowKit
theorem slook_all(t:Ses.T)(r:Rf)(w:World)(hf:Ses.Fit t):Calls Tryz.prog 25 #[.agg (tbA t),.agg #[.int .i64 r.c,.int .i64 r.e,.int .i64 r.r]] w (IsInt (Ses.lookW t r) w):=by
 have HM:=zH (fun W=>cmr_any r W)
 have HT:=zH (fun W=>sright_any t W hf)
 have HK:=kn2 w 31 (tbA t) 35 #[.int .i64 r.c,.int .i64 r.e,.int .i64 r.r]
 have HO1:=zH (fun h=>Ses.lookW_no1 (t:=t) (r:=r) h)
 have HO2:=zH (fun h=>Ses.lookW_no2 (t:=t) (r:=r) h)
 have HO3:=zH (fun h1 h2=>Ses.lookW_ok (t:=t) (r:=r) h1 h2)
 have HO5:Hid (decide (Lck.ok r)=true→0≤r.c∧r.c<5):=zH (fun h=>Ses.ok_c (of_decide_eq_true h))
 unfold IsInt
 unfold IsB at HM HT
 clear hf
 generalize Ses.lookW t r=x at *
 generalize decide (Ses.Right t)=y at *
 generalize decide (Lck.ok r)=z at *
 go_enter Tryz.func25,Tryz.ntmps25
 go_wp2_with (first|refine zX (kexec_lr HK 1 _ (by rfl) (by rfl) (by rfl)) ?_)
 refine(HM.out _).mono ?_;rintro e w1 ⟨rfl,b1⟩
 replace HK:=hkC HK b1;clear b1
 cases z
 case false=>
  have HX:=zH (HO1.out (by simp))
  go_wp2_with fail
  go_ret
  exact⟨by rw[HX.out]<;>rfl,HK.out.b⟩
 go_wp2_with (first|refine zX (ktb HK 0 _ (by rfl) (by rfl) (by rfl)) ?_)
 refine(HT.out _).mono ?_;rintro e w1 ⟨rfl,b1⟩
 replace HK:=hkC HK b1;clear b1
 cases y
 case false=>
  have HX:=zH (HO2.out (by simp))
  go_wp2_with fail
  go_ret
  exact⟨by rw[HX.out]<;>rfl,HK.out.b⟩
 have HX:=zH (HO3.out (by simp) (by simp))
 have hc:=HO5.out (by simp)
 clear HO1 HO2 HO3 HO5
 go_upto_region 4 with (first|refine zX (krf_c (x:=r) HK 1 _ (by rfl) (by rfl) (by rfl)) ?_|refine zX (exec_ixt hc _ _ (by rfl) (by rfl) (by rfl)) ?_|refine zX (kts HK 0 hc _ (by rfl) (by rfl) (by rfl)) ?_|(refine wpList_ase HK rfl rfl ?_;intro _ g1 HK';simp only[lcA,lnA] at HK';replace HK:=HK';clear HK')|(refine wpList_sse (u:=t.get r.c) HK 2 rfl _ _ rfl rfl rfl rfl ?_;intro _ HK';simp only[List.set] at HK';replace HK:=HK';clear HK'))
 generalize t.get r.c=s at *
 obtain⟨rc,re,rr⟩:=r
 obtain⟨l,ep,rq,d,p⟩:=s
 dsimp only at *
 have HLa:=zH (fun W=>slast_any ⟨l,ep,rq,d,p⟩ W)
 have k0:=HK.out.cell 2 rfl 0 (v:=.bool l) rfl
 have k1:=HK.out.cell 2 rfl 1 (v:=.int .i64 ep) rfl
 have k2:=HK.out.cell 2 rfl 2 (v:=.int .i64 rq) rfl
 have k3:=HK.out.cell 2 rfl 3 (v:=.bool d) rfl
 have q0:=HK.out.cell 1 rfl 0 (v:=.int .i64 rc) rfl
 have q1:=HK.out.cell 1 rfl 1 (v:=.int .i64 re) rfl
 have q2:=HK.out.cell 1 rfl 2 (v:=.int .i64 rr) rfl
 generalize h1:decide (rr=0)=b1 at *
 have H1:=zH h1
 generalize h2:decide (ep<re)=b2 at *
 have H2:=zH h2
 generalize h3:(!decide (re=ep))=b3 at *
 have H3:=zH h3
 generalize h4:decide (rr<rq)=b4 at *
 have H4:=zH h4
 generalize h5:decide (rr=rq)=b5 at *
 have H5:=zH h5
 generalize hw:IntKind.i64.wrap (rr-1)=rv at *
 have HW:=zH hw
 clear hw
 generalize h6:decide (rv=rq)=b6 at *
 have H6:=zH h6
 clear h1 h2 h3 h4 h5 h6 hc
 unfold IsInt at HLa
 cases b1
 case false=>
  cases b3
  case true=>
   go_wp2_with (first|refine zX (exec_iE (m:=rr) (n:=0) _ _ (by rfl) (by rfl) (by rfl) H1.out) ?_|refine zX (exec_iG (m:=re) (n:=ep) _ _ (by rfl) (by rfl) (by rfl) H2.out) ?_|refine zX (exec_iN (m:=re) (n:=ep) _ _ (by rfl) (by rfl) (by rfl) H3.out) ?_)
   go_ret
   exact⟨by rw[HX.out]<;>rfl,HK.out.b⟩
  cases b4
  case true=>
   go_wp2_with (first|refine zX (exec_iE (m:=rr) (n:=0) _ _ (by rfl) (by rfl) (by rfl) H1.out) ?_|refine zX (exec_iG (m:=re) (n:=ep) _ _ (by rfl) (by rfl) (by rfl) H2.out) ?_|refine zX (exec_iN (m:=re) (n:=ep) _ _ (by rfl) (by rfl) (by rfl) H3.out) ?_|refine zX (exec_iL (m:=rr) (n:=rq) _ _ (by rfl) (by rfl) (by rfl) H4.out) ?_)
   go_ret
   exact⟨by rw[HX.out]<;>rfl,HK.out.b⟩
  cases b5
  case true=>
   cases d
   ·go_wp2_with (first|refine zX (exec_iE (m:=rr) (n:=0) _ _ (by rfl) (by rfl) (by rfl) H1.out) ?_|refine zX (exec_iG (m:=re) (n:=ep) _ _ (by rfl) (by rfl) (by rfl) H2.out) ?_|refine zX (exec_iN (m:=re) (n:=ep) _ _ (by rfl) (by rfl) (by rfl) H3.out) ?_|refine zX (exec_iL (m:=rr) (n:=rq) _ _ (by rfl) (by rfl) (by rfl) H4.out) ?_|refine zX (exec_iE (m:=rr) (n:=rq) _ _ (by rfl) (by rfl) (by rfl) H5.out) ?_|refine zX (kse HK 2 _ (by rfl) (by rfl) (by rfl)) ?_)
    refine(HLa.out _).mono ?_;rintro e w1 ⟨rfl,b1⟩
    replace HK:=hkC HK b1;clear b1 k0 k1 k2 k3 q0 q1 q2
    go_wp2_with fail
    go_ret
    exact⟨by rw[HX.out]<;>rfl,HK.out.b⟩
   ·go_wp2_with (first|refine zX (exec_iE (m:=rr) (n:=0) _ _ (by rfl) (by rfl) (by rfl) H1.out) ?_|refine zX (exec_iG (m:=re) (n:=ep) _ _ (by rfl) (by rfl) (by rfl) H2.out) ?_|refine zX (exec_iN (m:=re) (n:=ep) _ _ (by rfl) (by rfl) (by rfl) H3.out) ?_|refine zX (exec_iL (m:=rr) (n:=rq) _ _ (by rfl) (by rfl) (by rfl) H4.out) ?_|refine zX (exec_iE (m:=rr) (n:=rq) _ _ (by rfl) (by rfl) (by rfl) H5.out) ?_|refine zX (kse HK 2 _ (by rfl) (by rfl) (by rfl)) ?_)
    refine(HLa.out _).mono ?_;rintro e w1 ⟨rfl,b1⟩
    replace HK:=hkC HK b1;clear b1 k0 k1 k2 k3 q0 q1 q2
    go_wp2_with fail
    go_ret
    exact⟨by rw[HX.out]<;>rfl,HK.out.b⟩
  cases l
  case false=>
   go_wp2_with (first|refine zX (exec_iE (m:=rr) (n:=0) _ _ (by rfl) (by rfl) (by rfl) H1.out) ?_|refine zX (exec_iG (m:=re) (n:=ep) _ _ (by rfl) (by rfl) (by rfl) H2.out) ?_|refine zX (exec_iN (m:=re) (n:=ep) _ _ (by rfl) (by rfl) (by rfl) H3.out) ?_|refine zX (exec_iL (m:=rr) (n:=rq) _ _ (by rfl) (by rfl) (by rfl) H4.out) ?_|refine zX (exec_iE (m:=rr) (n:=rq) _ _ (by rfl) (by rfl) (by rfl) H5.out) ?_)
   go_ret
   exact⟨by rw[HX.out]<;>rfl,HK.out.b⟩
  cases b6
  case false=>
   go_wp2_with (first|refine zX (exec_iE (m:=rr) (n:=0) _ _ (by rfl) (by rfl) (by rfl) H1.out) ?_|refine zX (exec_iG (m:=re) (n:=ep) _ _ (by rfl) (by rfl) (by rfl) H2.out) ?_|refine zX (exec_iN (m:=re) (n:=ep) _ _ (by rfl) (by rfl) (by rfl) H3.out) ?_|refine zX (exec_iL (m:=rr) (n:=rq) _ _ (by rfl) (by rfl) (by rfl) H4.out) ?_|refine zX (exec_iE (m:=rr) (n:=rq) _ _ (by rfl) (by rfl) (by rfl) H5.out) ?_|refine zX (exec_iE (m:=rv) (n:=rq) _ _ (by rfl) (by rfl) (by rfl) H6.out) ?_|refine zX (exec_dec (m:=rr) (n:=rv) _ (by rfl) (by rfl) HW.out) ?_)
   go_ret
   exact⟨by rw[HX.out]<;>rfl,HK.out.b⟩
  cases d
  case true=>
   go_wp2_with (first|refine zX (exec_iE (m:=rr) (n:=0) _ _ (by rfl) (by rfl) (by rfl) H1.out) ?_|refine zX (exec_iG (m:=re) (n:=ep) _ _ (by rfl) (by rfl) (by rfl) H2.out) ?_|refine zX (exec_iN (m:=re) (n:=ep) _ _ (by rfl) (by rfl) (by rfl) H3.out) ?_|refine zX (exec_iL (m:=rr) (n:=rq) _ _ (by rfl) (by rfl) (by rfl) H4.out) ?_|refine zX (exec_iE (m:=rr) (n:=rq) _ _ (by rfl) (by rfl) (by rfl) H5.out) ?_|refine zX (exec_iE (m:=rv) (n:=rq) _ _ (by rfl) (by rfl) (by rfl) H6.out) ?_|refine zX (exec_dec (m:=rr) (n:=rv) _ (by rfl) (by rfl) HW.out) ?_)
   go_ret
   exact⟨by rw[HX.out]<;>rfl,HK.out.b⟩
  go_wp2_with (first|refine zX (exec_iE (m:=rr) (n:=0) _ _ (by rfl) (by rfl) (by rfl) H1.out) ?_|refine zX (exec_iG (m:=re) (n:=ep) _ _ (by rfl) (by rfl) (by rfl) H2.out) ?_|refine zX (exec_iN (m:=re) (n:=ep) _ _ (by rfl) (by rfl) (by rfl) H3.out) ?_|refine zX (exec_iL (m:=rr) (n:=rq) _ _ (by rfl) (by rfl) (by rfl) H4.out) ?_|refine zX (exec_iE (m:=rr) (n:=rq) _ _ (by rfl) (by rfl) (by rfl) H5.out) ?_|refine zX (exec_iE (m:=rv) (n:=rq) _ _ (by rfl) (by rfl) (by rfl) H6.out) ?_|refine zX (exec_dec (m:=rr) (n:=rv) _ (by rfl) (by rfl) HW.out) ?_)
  go_ret
  exact⟨by rw[HX.out]<;>rfl,HK.out.b⟩
 cases b2
 case false=>
  cases b3
  case true=>
   go_wp2_with (first|refine zX (exec_iE (m:=rr) (n:=0) _ _ (by rfl) (by rfl) (by rfl) H1.out) ?_|refine zX (exec_iG (m:=re) (n:=ep) _ _ (by rfl) (by rfl) (by rfl) H2.out) ?_|refine zX (exec_iN (m:=re) (n:=ep) _ _ (by rfl) (by rfl) (by rfl) H3.out) ?_)
   go_ret
   exact⟨by rw[HX.out]<;>rfl,HK.out.b⟩
  cases b4
  case true=>
   go_wp2_with (first|refine zX (exec_iE (m:=rr) (n:=0) _ _ (by rfl) (by rfl) (by rfl) H1.out) ?_|refine zX (exec_iG (m:=re) (n:=ep) _ _ (by rfl) (by rfl) (by rfl) H2.out) ?_|refine zX (exec_iN (m:=re) (n:=ep) _ _ (by rfl) (by rfl) (by rfl) H3.out) ?_|refine zX (exec_iL (m:=rr) (n:=rq) _ _ (by rfl) (by rfl) (by rfl) H4.out) ?_)
   go_ret
   exact⟨by rw[HX.out]<;>rfl,HK.out.b⟩
  cases b5
  case true=>
   cases d
   ·go_wp2_with (first|refine zX (exec_iE (m:=rr) (n:=0) _ _ (by rfl) (by rfl) (by rfl) H1.out) ?_|refine zX (exec_iG (m:=re) (n:=ep) _ _ (by rfl) (by rfl) (by rfl) H2.out) ?_|refine zX (exec_iN (m:=re) (n:=ep) _ _ (by rfl) (by rfl) (by rfl) H3.out) ?_|refine zX (exec_iL (m:=rr) (n:=rq) _ _ (by rfl) (by rfl) (by rfl) H4.out) ?_|refine zX (exec_iE (m:=rr) (n:=rq) _ _ (by rfl) (by rfl) (by rfl) H5.out) ?_|refine zX (kse HK 2 _ (by rfl) (by rfl) (by rfl)) ?_)
    refine(HLa.out _).mono ?_;rintro e w1 ⟨rfl,b1⟩
    replace HK:=hkC HK b1;clear b1 k0 k1 k2 k3 q0 q1 q2
    go_wp2_with fail
    go_ret
    exact⟨by rw[HX.out]<;>rfl,HK.out.b⟩
   ·go_wp2_with (first|refine zX (exec_iE (m:=rr) (n:=0) _ _ (by rfl) (by rfl) (by rfl) H1.out) ?_|refine zX (exec_iG (m:=re) (n:=ep) _ _ (by rfl) (by rfl) (by rfl) H2.out) ?_|refine zX (exec_iN (m:=re) (n:=ep) _ _ (by rfl) (by rfl) (by rfl) H3.out) ?_|refine zX (exec_iL (m:=rr) (n:=rq) _ _ (by rfl) (by rfl) (by rfl) H4.out) ?_|refine zX (exec_iE (m:=rr) (n:=rq) _ _ (by rfl) (by rfl) (by rfl) H5.out) ?_|refine zX (kse HK 2 _ (by rfl) (by rfl) (by rfl)) ?_)
    refine(HLa.out _).mono ?_;rintro e w1 ⟨rfl,b1⟩
    replace HK:=hkC HK b1;clear b1 k0 k1 k2 k3 q0 q1 q2
    go_wp2_with fail
    go_ret
    exact⟨by rw[HX.out]<;>rfl,HK.out.b⟩
  cases l
  case false=>
   go_wp2_with (first|refine zX (exec_iE (m:=rr) (n:=0) _ _ (by rfl) (by rfl) (by rfl) H1.out) ?_|refine zX (exec_iG (m:=re) (n:=ep) _ _ (by rfl) (by rfl) (by rfl) H2.out) ?_|refine zX (exec_iN (m:=re) (n:=ep) _ _ (by rfl) (by rfl) (by rfl) H3.out) ?_|refine zX (exec_iL (m:=rr) (n:=rq) _ _ (by rfl) (by rfl) (by rfl) H4.out) ?_|refine zX (exec_iE (m:=rr) (n:=rq) _ _ (by rfl) (by rfl) (by rfl) H5.out) ?_)
   go_ret
   exact⟨by rw[HX.out]<;>rfl,HK.out.b⟩
  cases b6
  case false=>
   go_wp2_with (first|refine zX (exec_iE (m:=rr) (n:=0) _ _ (by rfl) (by rfl) (by rfl) H1.out) ?_|refine zX (exec_iG (m:=re) (n:=ep) _ _ (by rfl) (by rfl) (by rfl) H2.out) ?_|refine zX (exec_iN (m:=re) (n:=ep) _ _ (by rfl) (by rfl) (by rfl) H3.out) ?_|refine zX (exec_iL (m:=rr) (n:=rq) _ _ (by rfl) (by rfl) (by rfl) H4.out) ?_|refine zX (exec_iE (m:=rr) (n:=rq) _ _ (by rfl) (by rfl) (by rfl) H5.out) ?_|refine zX (exec_iE (m:=rv) (n:=rq) _ _ (by rfl) (by rfl) (by rfl) H6.out) ?_|refine zX (exec_dec (m:=rr) (n:=rv) _ (by rfl) (by rfl) HW.out) ?_)
   go_ret
   exact⟨by rw[HX.out]<;>rfl,HK.out.b⟩
  cases d
  case true=>
   go_wp2_with (first|refine zX (exec_iE (m:=rr) (n:=0) _ _ (by rfl) (by rfl) (by rfl) H1.out) ?_|refine zX (exec_iG (m:=re) (n:=ep) _ _ (by rfl) (by rfl) (by rfl) H2.out) ?_|refine zX (exec_iN (m:=re) (n:=ep) _ _ (by rfl) (by rfl) (by rfl) H3.out) ?_|refine zX (exec_iL (m:=rr) (n:=rq) _ _ (by rfl) (by rfl) (by rfl) H4.out) ?_|refine zX (exec_iE (m:=rr) (n:=rq) _ _ (by rfl) (by rfl) (by rfl) H5.out) ?_|refine zX (exec_iE (m:=rv) (n:=rq) _ _ (by rfl) (by rfl) (by rfl) H6.out) ?_|refine zX (exec_dec (m:=rr) (n:=rv) _ (by rfl) (by rfl) HW.out) ?_)
   go_ret
   exact⟨by rw[HX.out]<;>rfl,HK.out.b⟩
  go_wp2_with (first|refine zX (exec_iE (m:=rr) (n:=0) _ _ (by rfl) (by rfl) (by rfl) H1.out) ?_|refine zX (exec_iG (m:=re) (n:=ep) _ _ (by rfl) (by rfl) (by rfl) H2.out) ?_|refine zX (exec_iN (m:=re) (n:=ep) _ _ (by rfl) (by rfl) (by rfl) H3.out) ?_|refine zX (exec_iL (m:=rr) (n:=rq) _ _ (by rfl) (by rfl) (by rfl) H4.out) ?_|refine zX (exec_iE (m:=rr) (n:=rq) _ _ (by rfl) (by rfl) (by rfl) H5.out) ?_|refine zX (exec_iE (m:=rv) (n:=rq) _ _ (by rfl) (by rfl) (by rfl) H6.out) ?_|refine zX (exec_dec (m:=rr) (n:=rv) _ (by rfl) (by rfl) HW.out) ?_)
  go_ret
  exact⟨by rw[HX.out]<;>rfl,HK.out.b⟩
 go_wp2_with (first|refine zX (exec_iE (m:=rr) (n:=0) _ _ (by rfl) (by rfl) (by rfl) H1.out) ?_|refine zX (exec_iG (m:=re) (n:=ep) _ _ (by rfl) (by rfl) (by rfl) H2.out) ?_)
 go_ret
 exact⟨by rw[HX.out]<;>rfl,HK.out.b⟩
end
end Go.Proofs.YtieoeendnccafaaGreat
