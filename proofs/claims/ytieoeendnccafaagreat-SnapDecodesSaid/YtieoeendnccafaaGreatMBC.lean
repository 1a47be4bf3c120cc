/- What the document's none returns. No condition but those named. -/
import Derived.Test.YtieoeendnccafaaGreatMTK
import Derived.Test.YtieoeendnccafaaGreatMBA
import Derived.Test.YtieoeendnccafaaGreatMAL
import Derived.Test.YtieoeendnccafaaGreatMAN
import Derived.Test.YtieoeendnccafaaGreatMAY
import Derived.Deep.DeepCutAuto
import Derived.BigGuard
set_option linter.unusedSimpArgs false
set_option linter.unusedVariables false
set_option maxRecDepth 100000
set_option maxHeartbeats 25600000
namespace Go.Proofs.YtieoeendnccafaaGreat
section
open Go.RowKit
theorem rlook_all(t:Ses.T)(r:Rf)(w:World)(hf:Ses.Fit t):Calls Tryz.prog 30 #[.agg (tbA t),.agg #[.int .i64 r.c,.int .i64 r.e,.int .i64 r.r]] w (IsInt (Ses.lookW t r) w):=by
 have HM:=zH (fun W=>rmr_any r W)
 have HT:=zH (fun W=>rsesright_any t W hf)
 have HK:=kn2 w 31 (tbA t) 35 #[.int .i64 r.c,.int .i64 r.e,.int .i64 r.r]
 have HO1:=zH (fun h=>Ses.lookW_no1 (t:=t) (r:=r) h)
 have HO2:=zH (fun h=>Ses.lookW_no2 (t:=t) (r:=r) h)
 have HO3:=zH (fun h1 h2=>Ses.lookW_ok (t:=t) (r:=r) h1 h2)
 have HO5:Hid (decide (Lck.ok r)=true→0≤r.c∧r.c<5):=zH (fun h=>Ses.ok_c (of_decide_eq_true h))
 unfold IsInt
 unfold IsB at HM HT
 clear hf
 generalize Ses.lookW t r=x at *
 generalize decide (Ses.Right t)=y at *
 generalize decide (Lck.ok r)=z at *
 go_enter Tryz.func30,Tryz.ntmps30
 go_wp2_with (first|refine zX (kexec_lr HK 1 _ (by rfl) (by rfl) (by rfl)) ?_)
 refine(HM.out _).mono ?_;rintro e w1 ⟨rfl,b1⟩
 replace HK:=hkC HK b1;clear b1
 cases z
 case false=>
  have HX:=zH (HO1.out (by simp))
  go_wp2_with fail
  go_ret
  exact⟨by rw[HX.out]<;>rfl,HK.out.b⟩
 go_wp2_with (first|refine zX (ktb HK 0 _ (by rfl) (by rfl) (by rfl)) ?_)
 refine(HT.out _).mono ?_;rintro e w1 ⟨rfl,b1⟩
 replace HK:=hkC HK b1;clear b1
 cases y
 case false=>
  have HX:=zH (HO2.out (by simp))
  go_wp2_with fail
  go_ret
  exact⟨by rw[HX.out]<;>rfl,HK.out.b⟩
 have HX:=zH (HO3.out (by simp) (by simp))
 have hc:=HO5.out (by simp)
 clear HO1 HO2 HO3 HO5
 go_upto_region 4 with (first|refine zX (krf_c (x:=r) HK 1 _ (by rfl) (by rfl) (by rfl)) ?_|refine zX (exec_ixt hc _ _ (by rfl) (by rfl) (by rfl)) ?_|refine zX (kts HK 0 hc _ (by rfl) (by rfl) (by rfl)) ?_|(refine wpList_ase HK rfl rfl ?_;intro _ g1 HK';simp only[lcA,lnA] at HK';replace HK:=HK';clear HK')|(refine wpList_sse (u:=t.get r.c) HK 2 rfl _ _ rfl rfl rfl rfl ?_;intro _ HK';simp only[List.set] at HK';replace HK:=HK';clear HK'))
 generalize t.get r.c=s at *
 obtain⟨rc,re,rr⟩:=r
 obtain⟨l,ep,rq,d,p⟩:=s
 dsimp only at *
 have k0:=HK.out.cell 2 rfl 0 (v:=.bool l) rfl
 have k1:=HK.out.cell 2 rfl 1 (v:=.int .i64 ep) rfl
 have k2:=HK.out.cell 2 rfl 2 (v:=.int .i64 rq) rfl
 have k3:=HK.out.cell 2 rfl 3 (v:=.bool d) rfl
 have q0:=HK.out.cell 1 rfl 0 (v:=.int .i64 rc) rfl
 have q1:=HK.out.cell 1 rfl 1 (v:=.int .i64 re) rfl
 have q2:=HK.out.cell 1 rfl 2 (v:=.int .i64 rr) rfl
 generalize h1:decide (rr=0)=b1 at *
 have H1:=zH h1
 generalize h2:decide (ep<re)=b2 at *
 have H2:=zH h2
 generalize h3:(!decide (re=ep))=b3 at *
 have H3:=zH h3
 generalize h4:decide (rr<rq)=b4 at *
 have H4:=zH h4
 generalize h5:decide (rr=rq)=b5 at *
 have H5:=zH h5
 generalize hw:IntKind.i64.wrap (rr-1)=rv at *
 have HW:=zH hw
 clear hw
 generalize h6:decide (rv=rq)=b6 at *
 have H6:=zH h6
 clear h1 h2 h3 h4 h5 h6 hc
 cases b1
 case false=>
  cases b3
  case true=>
   go_wp2_with (first|refine zX (exec_iE (m:=rr) (n:=0) _ _ (by rfl) (by rfl) (by rfl) H1.out) ?_|refine zX (exec_iG (m:=re) (n:=ep) _ _ (by rfl) (by rfl) (by rfl) H2.out) ?_|refine zX (exec_iN (m:=re) (n:=ep) _ _ (by rfl) (by rfl) (by rfl) H3.out) ?_)
   go_ret
   exact⟨by rw[HX.out]<;>rfl,HK.out.b⟩
  cases b4
  case true=>
   go_wp2_with (first|refine zX (exec_iE (m:=rr) (n:=0) _ _ (by rfl) (by rfl) (by rfl) H1.out) ?_|refine zX (exec_iG (m:=re) (n:=ep) _ _ (by rfl) (by rfl) (by rfl) H2.out) ?_|refine zX (exec_iN (m:=re) (n:=ep) _ _ (by rfl) (by rfl) (by rfl) H3.out) ?_|refine zX (exec_iL (m:=rr) (n:=rq) _ _ (by rfl) (by rfl) (by rfl) H4.out) ?_)
   go_ret
   exact⟨by rw[HX.out]<;>rfl,HK.out.b⟩
  cases b5
  case true=>
   cases d
   ·go_wp2_with (first|refine zX (exec_iE (m:=rr) (n:=0) _ _ (by rfl) (by rfl) (by rfl) H1.out) ?_|refine zX (exec_iG (m:=re) (n:=ep) _ _ (by rfl) (by rfl) (by rfl) H2.out) ?_|refine zX (exec_iN (m:=re) (n:=ep) _ _ (by rfl) (by rfl) (by rfl) H3.out) ?_|refine zX (exec_iL (m:=rr) (n:=rq) _ _ (by rfl) (by rfl) (by rfl) H4.out) ?_|refine zX (exec_iE (m:=rr) (n:=rq) _ _ (by rfl) (by rfl) (by rfl) H5.out) ?_)
    go_ret
    exact⟨by rw[HX.out]<;>rfl,HK.out.b⟩
   ·go_wp2_with (first|refine zX (exec_iE (m:=rr) (n:=0) _ _ (by rfl) (by rfl) (by rfl) H1.out) ?_|refine zX (exec_iG (m:=re) (n:=ep) _ _ (by rfl) (by rfl) (by rfl) H2.out) ?_|refine zX (exec_iN (m:=re) (n:=ep) _ _ (by rfl) (by rfl) (by rfl) H3.out) ?_|refine zX (exec_iL (m:=rr) (n:=rq) _ _ (by rfl) (by rfl) (by rfl) H4.out) ?_|refine zX (exec_iE (m:=rr) (n:=rq) _ _ (by rfl) (by rfl) (by rfl) H5.out) ?_)
    go_ret
    exact⟨by rw[HX.out]<;>rfl,HK.out.b⟩
  cases l
  case false=>
   go_wp2_with (first|refine zX (exec_iE (m:=rr) (n:=0) _ _ (by rfl) (by rfl) (by rfl) H1.out) ?_|refine zX (exec_iG (m:=re) (n:=ep) _ _ (by rfl) (by rfl) (by rfl) H2.out) ?_|refine zX (exec_iN (m:=re) (n:=ep) _ _ (by rfl) (by rfl) (by rfl) H3.out) ?_|refine zX (exec_iL (m:=rr) (n:=rq) _ _ (by rfl) (by rfl) (by rfl) H4.out) ?_|refine zX (exec_iE (m:=rr) (n:=rq) _ _ (by rfl) (by rfl) (by rfl) H5.out) ?_)
   go_ret
   exact⟨by rw[HX.out]<;>rfl,HK.out.b⟩
  cases b6
  case false=>
   go_wp2_with (first|refine zX (exec_iE (m:=rr) (n:=0) _ _ (by rfl) (by rfl) (by rfl) H1.out) ?_|refine zX (exec_iG (m:=re) (n:=ep) _ _ (by rfl) (by rfl) (by rfl) H2.out) ?_|refine zX (exec_iN (m:=re) (n:=ep) _ _ (by rfl) (by rfl) (by rfl) H3.out) ?_|refine zX (exec_iL (m:=rr) (n:=rq) _ _ (by rfl) (by rfl) (by rfl) H4.out) ?_|refine zX (exec_iE (m:=rr) (n:=rq) _ _ (by rfl) (by rfl) (by rfl) H5.out) ?_|refine zX (exec_iE (m:=rv) (n:=rq) _ _ (by rfl) (by rfl) (by rfl) H6.out) ?_|refine zX (exec_dec (m:=rr) (n:=rv) _ (by rfl) (by rfl) HW.out) ?_)
   go_ret
   exact⟨by rw[HX.out]<;>rfl,HK.out.b⟩
  cases d
  case true=>
   go_wp2_with (first|refine zX (exec_iE (m:=rr) (n:=0) _ _ (by rfl) (by rfl) (by rfl) H1.out) ?_|refine zX (exec_iG (m:=re) (n:=ep) _ _ (by rfl) (by rfl) (by rfl) H2.out) ?_|refine zX (exec_iN (m:=re) (n:=ep) _ _ (by rfl) (by rfl) (by rfl) H3.out) ?_|refine zX (exec_iL (m:=rr) (n:=rq) _ _ (by rfl) (by rfl) (by rfl) H4.out) ?_|refine zX (exec_iE (m:=rr) (n:=rq) _ _ (by rfl) (by rfl) (by rfl) H5.out) ?_|refine zX (exec_iE (m:=rv) (n:=rq) _ _ (by rfl) (by rfl) (by rfl) H6.out) ?_|refine zX (exec_dec (m:=rr) (n:=rv) _ (by rfl) (by rfl) HW.out) ?_)
   go_ret
   exact⟨by rw[HX.out]<;>rfl,HK.out.b⟩
  go_wp2_with (first|refine zX (exec_iE (m:=rr) (n:=0) _ _ (by rfl) (by rfl) (by rfl) H1.out) ?_|refine zX (exec_iG (m:=re) (n:=ep) _ _ (by rfl) (by rfl) (by rfl) H2.out) ?_|refine zX (exec_iN (m:=re) (n:=ep) _ _ (by rfl) (by rfl) (by rfl) H3.out) ?_|refine zX (exec_iL (m:=rr) (n:=rq) _ _ (by rfl) (by rfl) (by rfl) H4.out) ?_|refine zX (exec_iE (m:=rr) (n:=rq) _ _ (by rfl) (by rfl) (by rfl) H5.out) ?_|refine zX (exec_iE (m:=rv) (n:=rq) _ _ (by rfl) (by rfl) (by rfl) H6.out) ?_|refine zX (exec_dec (m:=rr) (n:=rv) _ (by rfl) (by rfl) HW.out) ?_)
  go_ret
  exact⟨by rw[HX.out]<;>rfl,HK.out.b⟩
 cases b2
 case false=>
  cases b3
  case true=>
   go_wp2_with (first|refine zX (exec_iE (m:=rr) (n:=0) _ _ (by rfl) (by rfl) (by rfl) H1.out) ?_|refine zX (exec_iG (m:=re) (n:=ep) _ _ (by rfl) (by rfl) (by rfl) H2.out) ?_|refine zX (exec_iN (m:=re) (n:=ep) _ _ (by rfl) (by rfl) (by rfl) H3.out) ?_)
   go_ret
   exact⟨by rw[HX.out]<;>rfl,HK.out.b⟩
  cases b4
  case true=>
   go_wp2_with (first|refine zX (exec_iE (m:=rr) (n:=0) _ _ (by rfl) (by rfl) (by rfl) H1.out) ?_|refine zX (exec_iG (m:=re) (n:=ep) _ _ (by rfl) (by rfl) (by rfl) H2.out) ?_|refine zX (exec_iN (m:=re) (n:=ep) _ _ (by rfl) (by rfl) (by rfl) H3.out) ?_|refine zX (exec_iL (m:=rr) (n:=rq) _ _ (by rfl) (by rfl) (by rfl) H4.out) ?_)
   go_ret
   exact⟨by rw[HX.out]<;>rfl,HK.out.b⟩
  cases b5
  case true=>
   cases d
   ·go_wp2_with (first|refine zX (exec_iE (m:=rr) (n:=0) _ _ (by rfl) (by rfl) (by rfl) H1.out) ?_|refine zX (exec_iG (m:=re) (n:=ep) _ _ (by rfl) (by rfl) (by rfl) H2.out) ?_|refine zX (exec_iN (m:=re) (n:=ep) _ _ (by rfl) (by rfl) (by rfl) H3.out) ?_|refine zX (exec_iL (m:=rr) (n:=rq) _ _ (by rfl) (by rfl) (by rfl) H4.out) ?_|refine zX (exec_iE (m:=rr) (n:=rq) _ _ (by rfl) (by rfl) (by rfl) H5.out) ?_)
    go_ret
    exact⟨by rw[HX.out]<;>rfl,HK.out.b⟩
   ·go_wp2_with (first|refine zX (exec_iE (m:=rr) (n:=0) _ _ (by rfl) (by rfl) (by rfl) H1.out) ?_|refine zX (exec_iG (m:=re) (n:=ep) _ _ (by rfl) (by rfl) (by rfl) H2.out) ?_|refine zX (exec_iN (m:=re) (n:=ep) _ _ (by rfl) (by rfl) (by rfl) H3.out) ?_|refine zX (exec_iL (m:=rr) (n:=rq) _ _ (by rfl) (by rfl) (by rfl) H4.out) ?_|refine zX (exec_iE (m:=rr) (n:=rq) _ _ (by rfl) (by rfl) (by rfl) H5.out) ?_)
    go_ret
    exact⟨by rw[HX.out]<;>rfl,HK.out.b⟩
  cases l
  case false=>
   go_wp2_with (first|refine zX (exec_iE (m:=rr) (n:=0) _ _ (by rfl) (by rfl) (by rfl) H1.out) ?_|refine zX (exec_iG (m:=re) (n:=ep) _ _ (by rfl) (by rfl) (by rfl) H2.out) ?_|refine zX (exec_iN (m:=re) (n:=ep) _ _ (by rfl) (by rfl) (by rfl) H3.out) ?_|refine zX (exec_iL (m:=rr) (n:=rq) _ _ (by rfl) (by rfl) (by rfl) H4.out) ?_|refine zX (exec_iE (m:=rr) (n:=rq) _ _ (by rfl) (by rfl) (by rfl) H5.out) ?_)
   go_ret
   exact⟨by rw[HX.out]<;>rfl,HK.out.b⟩
  cases b6
  case false=>
   go_wp2_with (first|refine zX (exec_iE (m:=rr) (n:=0) _ _ (by rfl) (by rfl) (by rfl) H1.out) ?_|refine zX (exec_iG (m:=re) (n:=ep) _ _ (by rfl) (by rfl) (by rfl) H2.out) ?_|refine zX (exec_iN (m:=re) (n:=ep) _ _ (by rfl) (by rfl) (by rfl) H3.out) ?_|refine zX (exec_iL (m:=rr) (n:=rq) _ _ (by rfl) (by rfl) (by rfl) H4.out) ?_|refine zX (exec_iE (m:=rr) (n:=rq) _ _ (by rfl) (by rfl) (by rfl) H5.out) ?_|refine zX (exec_iE (m:=rv) (n:=rq) _ _ (by rfl) (by rfl) (by rfl) H6.out) ?_|refine zX (exec_dec (m:=rr) (n:=rv) _ (by rfl) (by rfl) HW.out) ?_)
   go_ret
   exact⟨by rw[HX.out]<;>rfl,HK.out.b⟩
  cases d
  case true=>
   go_wp2_with (first|refine zX (exec_iE (m:=rr) (n:=0) _ _ (by rfl) (by rfl) (by rfl) H1.out) ?_|refine zX (exec_iG (m:=re) (n:=ep) _ _ (by rfl) (by rfl) (by rfl) H2.out) ?_|refine zX (exec_iN (m:=re) (n:=ep) _ _ (by rfl) (by rfl) (by rfl) H3.out) ?_|refine zX (exec_iL (m:=rr) (n:=rq) _ _ (by rfl) (by rfl) (by rfl) H4.out) ?_|refine zX (exec_iE (m:=rr) (n:=rq) _ _ (by rfl) (by rfl) (by rfl) H5.out) ?_|refine zX (exec_iE (m:=rv) (n:=rq) _ _ (by rfl) (by rfl) (by rfl) H6.out) ?_|refine zX (exec_dec (m:=rr) (n:=rv) _ (by rfl) (by rfl) HW.out) ?_)
   go_ret
   exact⟨by rw[HX.out]<;>rfl,HK.out.b⟩
  go_wp2_with (first|refine zX (exec_iE (m:=rr) (n:=0) _ _ (by rfl) (by rfl) (by rfl) H1.out) ?_|refine zX (exec_iG (m:=re) (n:=ep) _ _ (by rfl) (by rfl) (by rfl) H2.out) ?_|refine zX (exec_iN (m:=re) (n:=ep) _ _ (by rfl) (by rfl) (by rfl) H3.out) ?_|refine zX (exec_iL (m:=rr) (n:=rq) _ _ (by rfl) (by rfl) (by rfl) H4.out) ?_|refine zX (exec_iE (m:=rr) (n:=rq) _ _ (by rfl) (by rfl) (by rfl) H5.out) ?_|refine zX (exec_iE (m:=rv) (n:=rq) _ _ (by rfl) (by rfl) (by rfl) H6.out) ?_|refine zX (exec_dec (m:=rr) (n:=rv) _ (by rfl) (by rfl) HW.out) ?_)
  go_ret
  exact⟨by rw[HX.out]<;>rfl,HK.out.b⟩
 go_wp2_with (first|refine zX (exec_iE (m:=rr) (n:=0) _ _ (by rfl) (by rfl) (by rfl) H1.out) ?_|refine zX (exec_iG (m:=re) (n:=ep) _ _ (by rfl) (by rfl) (by rfl) H2.out) ?_)
 go_ret
 exact⟨by rw[HX.out]<;>rfl,HK.out.b⟩
end
section
open Go.RowKit
theorem rwaiting_any(t:Ses.T)(r:Rf)(w:World)(hf:Ses.Fit t):Calls Tryz.prog 86 #[.agg (tbA t),.agg #[.int .i64 r.c,.int .i64 r.e,.int .i64 r.r]] w (IsB (decide (Ses.look t r=3)) w):=by
 rw[← Ses.lookW_3]
 have HL:=zH (fun W=>rlook_all t r W hf)
 have HK:=kn2 w 31 (tbA t) 35 #[.int .i64 r.c,.int .i64 r.e,.int .i64 r.r]
 unfold IsB
 unfold IsInt at HL
 clear hf
 generalize Ses.lookW t r=z at *
 generalize h1:decide (z=3)=b1 at *
 have H1:=zH h1
 clear h1
 go_enter Tryz.func86,Tryz.ntmps86
 go_wp2_with (first|refine zX (ktb HK 0 _ (by rfl) (by rfl) (by rfl)) ?_|refine zX (kexec_lr HK 1 _ (by rfl) (by rfl) (by rfl)) ?_)
 refine(HL.out _).mono ?_;rintro e w1 ⟨rfl,b1⟩
 replace HK:=hkC HK b1;clear b1
 go_wp2_with (first|refine zX (exec_iE (m:=z) (n:=3) _ _ (by rfl) (by rfl) (by rfl) H1.out) ?_)
 go_ret
 exact⟨rfl,HK.out.b⟩
end
section
open Go.RowKit
theorem ref_in{l:List Oh}(h:Sto.Right (vs l)){i:Nat}{x:Oh}(hx:l[i]?=some x){j:Nat}{z:Rf}(hz:x.v.refs[j]?=some z):0≤z.c∧z.c<5:=by
 have h1:=(Ap.refs_right (h.ok x.v (List.mem_of_getElem? (vs_get hx)))) j (List.getElem?_eq_some_iff.1 hz).1 z hz
 exact⟨h1.1.1,h1.1.2.1⟩
theorem refs_few2{l:List Oh}(h:Sto.Right (vs l)){i:Nat}{x:Oh}(hx:l[i]?=some x):x.v.refs.length≤5:=
 Lck.right_len (Ap.refs_right (h.ok x.v (List.mem_of_getElem? (vs_get hx))))
theorem rknown_any(n:Int)(A:Option Addr)(k cp:Nat)(t:Ses.T)(lo:List Oh)(w:World)(hs:Obs w A k cp lo)(hR:Sto.Right (vs lo))(hf:Ses.Fit t):
  Calls Tryz.prog 42 #[.agg (stA n A k cp t)] w (IsB (decide (Ap.Known (vs lo) t)) w):=by
 have HS:=zH hs
 have HR:=zH hR
 have HK:=kn1 w 33 (stA n A k cp t)
 have HW:=zH (fun r W=>rwaiting_any t r W hf)
 have HNo:Hid (∀(i:Nat) o,(vs lo)[i]?=some o→∀(j:Nat) r,o.refs[j]?=some r→¬Ap.okAt t o j r→decide (Ap.Known (vs lo) t)=false):=zH fun i o ho j r hr h=>Ap.known_no ho hr h
 have HYes:Hid ((∀(i:Nat) o,i<k→(vs lo)[i]?=some o→∀(j:Nat) r,o.refs[j]?=some r→Ap.okAt t o j r)→decide (Ap.Known (vs lo) t)=true):=zH fun h=>Ap.known_yes (by rw[vs_len,hs.len];exact h)
 have hk8:k≤8:=by have:=hR.len;rw[vs_len,hs.len] at this;exact this
 unfold IsB
 unfold IsB at HW
 generalize decide (Ap.Known (vs lo) t)=y at *
 clear hs hR hf
 go_enter Tryz.func42,Tryz.ntmps42
 go_wp2_with fail
 go_loopw [3] (fun v3 wr=>∃i:Nat,i≤k∧v3=.int .i64 i∧Hid (∀(i':Nat) o,i'<i→(vs lo)[i']?=some o→∀(j:Nat) r,o.refs[j]?=some r→Ap.okAt t o j r)∧Hid (Kn w.heap.size w wr [(w.heap.size,33,stA n A k cp t)] [])) (fun v3 _=>k-(intOf v3).toNat)
 case atStart=>exact⟨0,Nat.zero_le _,rfl,zH (fun i' o h=>absurd h (Nat.not_lt_zero _)),HK⟩
 case round=>
  clear HK
  obtain⟨i,hi,rfl,HG,HK⟩:=hrel
  have hi1:(0:Int)≤(i:Int):=by omega
  by_cases hik:i<k
  case neg=>
   obtain rfl:i=k:=by omega
   have hi2:¬(i:Int)<(i:Int):=by omega
   have hy:y=true:=HYes.out HG.out
   subst hy
   have f1:=HK.out.cell 0 rfl 1 (v:=.slice A i cp) rfl
   go_wp2_with fail
   go_ret
   exact⟨rfl,HK.out.b⟩
  case pos=>
  have hi2:(i:Int)<(k:Int):=by omega
  have hi3:i<9223372036854775807:=by omega
  obtain⟨x,hx,hin⟩:=HS.out.get hik
  obtain⟨b,o,rfl,hat⟩:=HS.out.s.at (Nat.lt_of_le_of_lt (Nat.zero_le _) hik)
  have HX:Hid (∀W,Below w.heap.size w W→∀j v,(obL x)[j]?=some v→W.cell? ⟨b,o+i*11+j,none⟩=some v):=zH (fun W hW=>hat W hW i x hx)
  have HC:=zH (fun(j:Nat) (z:Rf) (hz:x.v.refs[j]?=some z)=>ref_in HR.out hx hz)
  have hvx:=vs_get hx
  have HNx:Hid (∀(j:Nat) r,x.v.refs[j]?=some r→¬Ap.okAt t x.v j r→y=false):=zH fun j r hr h=>HNo.out i _ hvx j r hr h
  have HGx:Hid ((∀(j:Nat) r,j<x.rn→x.v.refs[j]?=some r→Ap.okAt t x.v j r)→∀(i':Nat) o,i'<i+1→(vs lo)[i']?=some o→∀(j:Nat) r,o.refs[j]?=some r→Ap.okAt t o j r):=zH fun h i' o' h1 h2 j r hr=>by
   by_cases e:i'=i
   ·subst e
    rw[hvx] at h2
    injection h2 with h2
    subst h2
    exact h j r (by rw[← hin.r.len];exact(List.getElem?_eq_some_iff.1 hr).1) hr
   ·exact HG.out i' o' (by omega) h2 j r hr
  have HSr:=zH hin.r
  have HCap:Hid (x.rn<9223372036854775807):=zH (by
   have:=(refs_few2 HR.out hx)
   rw[hin.r.len] at this
   omega)
  clear hat hx hin hvx HG
  have f1:=HK.out.cell 0 rfl 1 (v:=.slice (some ⟨b,o,none⟩) k cp) rfl
  go_wp2_with (first|(refine wpList_of_exec (v:=.agg (obA x)) (by rfl) (exec_obx (off:=o+i*11) _ (by rfl) (by rfl) (HX.out _ HK.out.b)) ?_)|(refine wpList_aob HK rfl rfl ?_;intro _ g1 HK';simp only[lcA,lnA] at HK';replace HK:=HK';clear HK')|(refine wpList_sob (y:=x) HK 1 rfl _ _ rfl rfl rfl rfl ?_;intro _ HK';simp only[List.set] at HK';replace HK:=HK';clear HK'))
  clear f1
  go_loopw [5] (fun v5 wi=>∃j:Nat,j≤x.rn∧v5=.int .i64 j∧Hid (∀(j':Nat) r,j'<j→x.v.refs[j']?=some r→Ap.okAt t x.v j' r)∧Hid (Kn w.heap.size w wi [(w.heap.size,33,stA n (some ⟨b,o,none⟩) k cp t),(g1,63,obA x)] [])) (fun v5 _=>x.rn-(intOf v5).toNat)
  case atStart=>exact⟨0,Nat.zero_le _,rfl,zH (fun j' r h=>absurd h (Nat.not_lt_zero _)),HK⟩
  case round=>
   clear HK
   obtain⟨j,hj,rfl,HJ,HK⟩:=hrel
   have hj1:(0:Int)≤(j:Int):=by omega
   have f2:=HK.out.cell 1 rfl 5 (v:=.slice x.rA x.rn x.rc) rfl
   by_cases hjm:j<x.rn
   case neg=>
    obtain rfl:j=x.rn:=by omega
    have hj2:¬(x.rn:Int)<(x.rn:Int):=by omega
    go_wp2_with (first|refine zX (exec_add1 (j:=i) _ (by rfl) (by rfl) hi3) ?_)
    exact⟨⟨i+1,hik,rfl,zH (HGx.out HJ.out),zH (HK.out.takeL 1)⟩,by simp[intOf];omega⟩
   case pos=>
   have hj2:(j:Int)<(x.rn:Int):=by omega
   have hj3:j<9223372036854775807:=by have:=HCap.out;omega
   obtain⟨z,hz,_⟩:=HSr.out.get hjm
   obtain⟨b2,o2,hA,hat⟩:=HSr.out.at (Nat.lt_of_le_of_lt (Nat.zero_le _) hjm)
   rw[hA] at f2
   have HZ:Hid (∀W,Below w.heap.size w W→∀q v,(rfL z)[q]?=some v→W.cell? ⟨b2,o2+j*3+q,none⟩=some v):=zH (fun W hW=>hat W hW j z hz)
   have hc:0≤z.c∧z.c<5:=HC.out j z hz
   have HNz:Hid (¬Ap.okAt t x.v j z→y=false):=zH (HNx.out j z hz)
   have HGz:Hid (Ap.okAt t x.v j z→∀(j':Nat) r,j'<j+1→x.v.refs[j']?=some r→Ap.okAt t x.v j' r):=zH fun h j' r h1 h2=>by
    by_cases e:j'=j
    ·subst e;rw[hz] at h2;injection h2 with h2;subst h2;exact h
    ·exact HJ.out j' r (by omega) h2
   clear hat hz hA HJ
   go_upto_region 10 with (first|refine zX (exec_lr (x:=z) (off:=o2+j*3) _ (by rfl) (by rfl) (HZ.out _ HK.out.b)) ?_|(refine wpList_akr HK rfl rfl ?_;intro _ g2 HK';simp only[lcA,lnA] at HK';replace HK:=HK';clear HK')|(refine wpList_sr HK 2 rfl _ _ rfl rfl rfl rfl ?_;intro _ HK';simp only[List.set] at HK';replace HK:=HK';clear HK')|refine zX (krf_c (x:=z) HK 2 _ (by rfl) (by rfl) (by rfl)) ?_|refine zX (exec_ixq hc _ _ (by rfl) (by rfl) (by rfl)) ?_|refine zX (kst_s HK 0 hc _ (by rfl) (by rfl) (by rfl)) ?_|(refine wpList_ase HK rfl rfl ?_;intro _ g3 HK';simp only[lcA,lnA] at HK';replace HK:=HK';clear HK')|(refine wpList_sse (u:=t.get z.c) HK 3 rfl _ _ rfl rfl rfl rfl ?_;intro _ HK';simp only[List.set] at HK';replace HK:=HK';clear HK'))
   clear f2
   have fk:=HK.out.cell 1 rfl 1 (v:=.int .i64 x.v.kind) rfl
   have fe:=HK.out.cell 2 rfl 1 (v:=.int .i64 z.e) rfl
   have fr:=HK.out.cell 2 rfl 2 (v:=.int .i64 z.r) rfl
   have fl:=HK.out.cell 3 rfl 0 (v:=.bool (t.get z.c).live) rfl
   have fp:=HK.out.cell 3 rfl 1 (v:=.int .i64 (t.get z.c).ep) rfl
   have fq:=HK.out.cell 3 rfl 2 (v:=.int .i64 (t.get z.c).rq) rfl
   have fd:=HK.out.cell 3 rfl 3 (v:=.bool (t.get z.c).dn) rfl
   by_cases hh:j=0∧x.v.kind=3
   case pos=>
    obtain⟨rfl,h3⟩:=hh
    have HOk:Hid (Ap.okAt t x.v 0 z↔(((t.get z.c).live=true∧(t.get z.c).ep=z.e∧z.r≤(t.get z.c).rq∧1≤z.r)∧¬(z.r=(t.get z.c).rq∧(t.get z.c).dn=false))):=zH (by unfold Ap.okAt Ap.Hd;rw[if_pos ⟨rfl,h3⟩])
    rw[h3] at fk
    generalize (t.get z.c).live=lv at *
    generalize (t.get z.c).ep=ep at *
    generalize (t.get z.c).rq=rq at *
    generalize (t.get z.c).dn=dn at *
    clear h3 hc
    cases lv with
    | false=>
     have hy:y=false:=HNz.out fun h=>by have:=(HOk.out.1 h).1.1;cases this
     subst hy
     clear HNz HGz
     go_wp2_with fail
     go_ret
     exact⟨rfl,HK.out.b⟩
    | true=>
    by_cases h1:ep=z.e
    case neg=>
     have hy:y=false:=HNz.out fun h=>h1 (HOk.out.1 h).1.2.1
     subst hy
     have hb1:(ep==z.e)=false:=by simpa using h1
     have hb2:(ep != z.e)=true:=by simpa using h1
     clear HNz HGz h1
     go_wp2_with fail
     go_ret
     exact⟨rfl,HK.out.b⟩
    case pos=>
    have hb1:(ep==z.e)=true:=by simpa using h1
    have hb2:(ep != z.e)=false:=by simpa using h1
    by_cases h2:rq<z.r
    case pos=>
     have hy:y=false:=HNz.out fun h=>by have:=(HOk.out.1 h).1.2.2.1;omega
     subst hy
     clear HNz HGz h1
     go_wp2_with fail
     go_ret
     exact⟨rfl,HK.out.b⟩
    case neg=>
    by_cases h4:z.r<1
    case pos=>
     have hy:y=false:=HNz.out fun h=>by have:=(HOk.out.1 h).1.2.2.2;omega
     subst hy
     clear HNz HGz h1
     go_wp2_with fail
     go_ret
     exact⟨rfl,HK.out.b⟩
    case neg=>
    by_cases h5:rq=z.r
    case neg=>
     have hb3:(rq==z.r)=false:=by simpa using h5
     have HGo:Hid (∀(j':Nat) r,j'<0+1→x.v.refs[j']?=some r→Ap.okAt t x.v j' r):=zH (HGz.out (HOk.out.2 ⟨⟨rfl,h1,by omega,by omega⟩,fun g=>h5 g.1.symm⟩))
     clear HNz HGz h1 h5
     go_wp2_with fail
     exact⟨⟨1,hjm,rfl,HGo,zH (HK.out.takeL 2)⟩,by simp[intOf];omega⟩
    case pos=>
     have hb3:(rq==z.r)=true:=by simpa using h5
     cases dn with
     | true=>
      have HGo:Hid (∀(j':Nat) r,j'<0+1→x.v.refs[j']?=some r→Ap.okAt t x.v j' r):=zH (HGz.out (HOk.out.2 ⟨⟨rfl,h1,by omega,by omega⟩,fun g=>by cases g.2⟩))
      clear HNz HGz h1 h5
      go_wp2_with fail
      exact⟨⟨1,hjm,rfl,HGo,zH (HK.out.takeL 2)⟩,by simp[intOf];omega⟩
     | false=>
      have hy:y=false:=HNz.out fun h=>(HOk.out.1 h).2 ⟨h5.symm,rfl⟩
      subst hy
      clear HNz HGz h1 h5
      go_wp2_with fail
      go_ret
      exact⟨rfl,HK.out.b⟩
   case neg=>
   have HOk:Hid (Ap.okAt t x.v j z↔Ses.look t z=3):=zH (by unfold Ap.okAt;rw[if_neg hh])
   have HWz:=zH (HW.out z)
   have HF:Hid (decide (Ses.look t z=3)=false→y=false):=zH fun e=>HNz.out fun h=>of_decide_eq_false e (HOk.out.1 h)
   have HT:Hid (decide (Ses.look t z=3)=true→∀(j':Nat) r,j'<j+1→x.v.refs[j']?=some r→Ap.okAt t x.v j' r):=zH fun e=>HGz.out (HOk.out.2 (of_decide_eq_true e))
   generalize decide (Ses.look t z=3)=q at *
   clear HNz HGz HOk hc fl fp fq fd
   have fc:=HK.out.cell 2 rfl 0 (v:=.int .i64 z.c) rfl
   by_cases hj0:j=0
   case pos=>
    subst hj0
    have h3:(x.v.kind==3)=false:=by simpa using fun e=>hh ⟨rfl,e⟩
    clear hh
    go_wp2_with (first|go_big_skip|refine zX (kst_t HK 0 _ (by rfl) (by rfl) (by rfl)) ?_|refine zX (kexec_lr HK 2 _ (by rfl) (by rfl) (by rfl)) ?_)
    clear fe fr fc
    refine(HWz.out _).mono ?_;rintro e w1 ⟨rfl,b1⟩
    replace HK:=hkC HK b1;clear b1
    cases q with
    | false=>
     have hy:y=false:=HF.out rfl
     subst hy
     go_wp2_with fail
     go_ret
     exact⟨rfl,HK.out.b⟩
    | true=>
     have HGo:=zH (HT.out rfl)
     clear HF HT
     go_wp2_with fail
     exact⟨⟨1,hjm,rfl,HGo,zH (HK.out.takeL 2)⟩,by simp[intOf];omega⟩
   case neg=>
    have h3:((j:Int)==0)=false:=by simpa using hj0
    have h4:¬(j:Int)=0:=by omega
    clear hh fk
    go_wp2_with (first|go_big_skip|refine zX (kst_t HK 0 _ (by rfl) (by rfl) (by rfl)) ?_|refine zX (kexec_lr HK 2 _ (by rfl) (by rfl) (by rfl)) ?_)
    clear fe fr fc
    refine(HWz.out _).mono ?_;rintro e w1 ⟨rfl,b1⟩
    replace HK:=hkC HK b1;clear b1
    cases q with
    | false=>
     have hy:y=false:=HF.out rfl
     subst hy
     go_wp2_with fail
     go_ret
     exact⟨rfl,HK.out.b⟩
    | true=>
     have HGo:=zH (HT.out rfl)
     clear HF HT
     go_wp2_with (first|refine zX (exec_add1 (j:=j) _ (by rfl) (by rfl) hj3) ?_)
     exact⟨⟨j+1,hjm,rfl,HGo,zH (HK.out.takeL 2)⟩,by simp[intOf];omega⟩
end
section
open Go.RowKit
theorem refs_few{l:List Oh}(h:Sto.Right (vs l)){i:Nat}{x:Oh}(hx:l[i]?=some x):Sto.One x.v=true∧x.v.refs.length≤5:=by
 have h1:=h.ok x.v (List.mem_of_getElem? (vs_get hx))
 exact⟨h1,Lck.right_len (Ap.refs_right h1)⟩
theorem rwaits_any(n:Int)(A:Option Addr)(k cp:Nat)(t:Ses.T)(lo:List Oh)(c1:Int)(w:World)(hs:Obs w A k cp lo)(hR:Sto.Right (vs lo)):
  Calls Tryz.prog 43 #[.agg (stA n A k cp t),.int .i64 c1] w (IsInt (Ap.cnt (Ap.W (vs lo)) c1:Nat) w):=by
 have HS:=zH hs
 have HR:=zH hR
 have HK:=kn1 w 33 (stA n A k cp t)
 have hk8:k≤8:=by have:=hR.len;rw[vs_len,hs.len] at this;exact this
 have HAll:Hid (Ap.cnt (Ap.W ((vs lo).take k)) c1=Ap.cnt (Ap.W (vs lo)) c1):=zH (by rw[List.take_of_length_le (by rw[vs_len,hs.len];exact Nat.le_refl _)])
 unfold IsInt
 generalize Ap.cnt (Ap.W (vs lo)) c1=y at *
 clear hs hR
 go_enter Tryz.func43,Tryz.ntmps43
 go_wp2_with fail
 go_loopw [5,6] (fun v5 v6 wr=>∃(i N:Nat),i≤k∧N≤5*i∧v5=.int .i64 (N:Int)∧v6=.int .i64 i∧Hid (Ap.cnt (Ap.W ((vs lo).take i)) c1=N)∧Hid (Kn w.heap.size w wr [(w.heap.size,33,stA n A k cp t)] [])) (fun _ v6 _=>k-(intOf v6).toNat)
 case atStart=>exact⟨0,0,Nat.zero_le _,Nat.zero_le _,rfl,rfl,zH rfl,HK⟩
 case round=>
  clear HK
  obtain⟨i,N,hi,hN,rfl,rfl,HN,HK⟩:=hrel
  have hi1:(0:Int)≤(i:Int):=by omega
  by_cases hik:i<k
  case neg=>
   obtain rfl:i=k:=by omega
   have hi2:¬(i:Int)<(i:Int):=by omega
   obtain rfl:N=y:=HN.out.symm.trans HAll.out
   have f1:=HK.out.cell 0 rfl 1 (v:=.slice A i cp) rfl
   go_wp2_with fail
   go_ret
   exact⟨rfl,HK.out.b⟩
  case pos=>
  have hi2:(i:Int)<(k:Int):=by omega
  have hi3:i<9223372036854775807:=by omega
  obtain⟨x,hx,hin⟩:=HS.out.get hik
  obtain⟨b,o,rfl,hat⟩:=HS.out.s.at (Nat.lt_of_le_of_lt (Nat.zero_le _) hik)
  have HX:=zH (fun W hW=>hat W hW i x hx)
  obtain⟨hone,hfew⟩:=refs_few HR.out hx
  have hvx:=vs_get hx
  have HNx:Hid (Ap.cnt (Ap.W ((vs lo).take (i+1))) c1=N+Ap.cntP x.v c1 x.rn):=zH (by
   rw[Ap.W_take hvx,HN.out,← Ap.cntP_all hone,hin.r.len])
  have HSr:=zH hin.r
  have hm5:x.rn≤5:=by rw[← hin.r.len];exact hfew
  generalize hrn:x.rn=m at *
  have HXm:Hid (x.rn=m):=zH hrn
  clear hat hx hin hone hfew hvx HN hrn
  have f1:=HK.out.cell 0 rfl 1 (v:=.slice (some ⟨b,o,none⟩) k cp) rfl
  go_wp2_with fail
  clear f1
  go_loopw [5,7] (fun v5 v7 wi=>∃(j M:Nat),j≤m∧M≤5*i+j∧v5=.int .i64 (M:Int)∧v7=.int .i64 j∧Hid (N+Ap.cntP x.v c1 j=M)∧Hid (Kn w.heap.size w wi [(w.heap.size,33,stA n (some ⟨b,o,none⟩) k cp t)] [])) (fun _ v7 _=>m-(intOf v7).toNat)
  case atStart=>exact⟨0,N,Nat.zero_le _,by omega,rfl,rfl,zH rfl,HK⟩
  case round=>
   clear HK
   obtain⟨j,M,hj,hM,rfl,rfl,HM,HK⟩:=hrel
   have hj1:(0:Int)≤(j:Int):=by omega
   have f1:=HK.out.cell 0 rfl 1 (v:=.slice (some ⟨b,o,none⟩) k cp) rfl
   have f2:World.cell? _ ⟨b,o+i*11+5,none⟩=some (.slice x.rA x.rn x.rc):=HX.out _ HK.out.b 5 (.slice x.rA x.rn x.rc) rfl
   rw[HXm.out] at f2
   by_cases hjm:j<m
   case neg=>
    obtain rfl:j=m:=by omega
    have hj2:¬(j:Int)<(j:Int):=by omega
    go_wp2_with (first|refine zX (exec_add1 (j:=i) _ (by rfl) (by rfl) hi3) ?_)
    exact⟨⟨i+1,M,hik,by omega,rfl,rfl,zH (HNx.out.trans HM.out),HK⟩,by simp[intOf];omega⟩
   case pos=>
   have hj2:(j:Int)<(m:Int):=by omega
   have hj3:j<9223372036854775807:=by omega
   have hM2:IntKind.i64.wrap ((M:Int)+1)=((M+1:Nat):Int):=by rw[IntKind.wrap_i64];omega
   have HMw:=zH hM2
   clear hM2
   obtain⟨z,hz,_⟩:=HSr.out.get hjm
   obtain⟨b2,o2,hA,hat⟩:=HSr.out.at (Nat.lt_of_le_of_lt (Nat.zero_le _) hjm)
   rw[hA] at f2
   have f4:_=_:=(hat _ HK.out.b j z hz) 0 (.int .i64 z.c) rfl
   have f4':World.cell? _ ⟨b2,o2+j*3,none⟩=some (.int .i64 z.c):=f4
   have f3:World.cell? _ ⟨b,o+i*11+1,none⟩=some (.int .i64 x.v.kind):=HX.out _ HK.out.b 1 (.int .i64 x.v.kind) rfl
   have HOne:=zH (Ap.one1_some (c:=c1) hz)
   have HMj:Hid (N+Ap.cntP x.v c1 (j+1)=M+Ap.one1 x.v c1 j):=zH (by rw[← HM.out];exact(Nat.add_assoc ..).symm)
   clear hat hz hA f4 HM
   by_cases h1:z.c=c1
   case neg=>
    have HMk:Hid (N+Ap.cntP x.v c1 (j+1)=M):=zH (by rw[HMj.out,HOne.out,if_neg (fun g=>h1 g.1),Nat.add_zero])
    have hb1:(z.c==c1)=false:=by simpa using h1
    clear HMj HOne h1
    go_wp2_with fail
    replace hj3:=hj3
    go_wp2_with (first|refine zX (exec_add1 (j:=j) _ (by rfl) (by rfl) hj3) ?_)
    exact⟨⟨j+1,M,hjm,by omega,rfl,rfl,HMk,HK⟩,by simp[intOf];omega⟩
   case pos=>
   have hb1:(z.c==c1)=true:=by simpa using h1
   by_cases h2:0<j
   case pos=>
    have HMk:Hid (N+Ap.cntP x.v c1 (j+1)=M+1):=zH (by rw[HMj.out,HOne.out,if_pos ⟨h1,.inl h2⟩])
    have hb2:(0:Int)<(j:Int):=by omega
    clear HMj HOne h1 h2
    go_wp2_with (first|refine zX (exec_incz (m:=(M:Int)) _ (by rfl) (by rfl) HMw.out) ?_|refine zX (exec_add1 (j:=j) _ (by rfl) (by rfl) hj3) ?_)
    exact⟨⟨j+1,M+1,hjm,by omega,rfl,rfl,HMk,HK⟩,by simp[intOf];omega⟩
   case neg=>
   obtain rfl:j=0:=by omega
   have hb2:¬(0:Int)<((0:Nat):Int):=by omega
   have f5:=f4'
   rw[Nat.zero_mul,Nat.add_zero] at f5
   clear f4'
   by_cases h4:x.v.kind=4
   case pos=>
    have HMk:Hid (N+Ap.cntP x.v c1 (0+1)=M+1):=zH (by rw[HMj.out,HOne.out,if_pos ⟨h1,.inr h4⟩])
    have hb3:(x.v.kind==4)=true:=by simpa using h4
    clear HMj HOne h1 h2 h4
    go_wp2_with (first|refine zX (exec_incz (m:=(M:Int)) _ (by rfl) (by rfl) HMw.out) ?_|refine zX (exec_add1 (j:=0) _ (by rfl) (by rfl) hj3) ?_)
    exact⟨⟨1,M+1,hjm,by omega,rfl,rfl,HMk,HK⟩,by simp[intOf];omega⟩
   case neg=>
    have HMk:Hid (N+Ap.cntP x.v c1 (0+1)=M):=zH (by rw[HMj.out,HOne.out,if_neg (fun g=>g.2.elim h2 h4),Nat.add_zero])
    have hb3:(x.v.kind==4)=false:=by simpa using h4
    clear HMj HOne h1 h2 h4
    go_wp2_with (first|refine zX (exec_add1 (j:=0) _ (by rfl) (by rfl) hj3) ?_)
    exact⟨⟨1,M,hjm,by omega,rfl,rfl,HMk,HK⟩,by simp[intOf];omega⟩
end
section
open Go.RowKit
namespace Sto
def non(o:Ob):Bool:=((!f0 o || h0 o.kind)&&(!f1 o || h1 o.kind)&&(!f2 o || h2 o.kind)&&(!f3 o || h3 o.kind)&&(!f4 o || h4 o.kind)&&(!f5 o || h5 o.kind))
theorem clean_non(o:Ob):clean o=(is o.kind&&non o):=rfl
theorem one_non(o:Ob):One o=(decide (named o.name)&&non o&&sound o):=by
 unfold One
 rw[clean_non]
 cases hs:sound o with
 | false=>simp
 | true=>rw[sound_is hs];simp
end Sto
theorem len0{n:Nat}:decide (0<n)=!decide (n=0):=by
 by_cases h:n=0
 ·subst h;rfl
 ·rw[decide_eq_true (by omega:0<n),decide_eq_false h];rfl
theorem non_of{o:Sto.Ob}{c p v r d m:Bool}(h0:Sto.f0 o=!c)(h1:Sto.f1 o=!p)(h2:Sto.f2 o=!v)(h3:Sto.f3 o=!r)(h4:Sto.f4 o=!d)(h5:Sto.f5 o=!m):
  Sto.non o=((c || Sto.h0 o.kind)&&(p || Sto.h1 o.kind)&&(v || Sto.h2 o.kind)&&(r || Sto.h3 o.kind)&&(d || Sto.h4 o.kind)&&(m || Sto.h5 o.kind)):=by
 unfold Sto.non
 rw[h0,h1,h2,h3,h4,h5]
 simp only[Bool.not_not]
theorem rnone_any(x:Oh)(w:World)(hx:In w x):Calls Tryz.prog 148 #[.agg (obA x)] w (IsB (Sto.non x.v) w):=by
 have hnon:=non_of (o:=x.v) (c:=decide (x.v.cap=0)) (p:=decide (x.pn=0)) (v:=decide (x.vn=0)) (r:=decide (x.rn=0)) (d:=decide (x.v.round=0)) (m:=decide (x.v.mt=Mt.zero)) rfl (by unfold Sto.f1;rw[hx.p.len];exact len0) (by unfold Sto.f2;rw[hx.v.len];exact len0) (by unfold Sto.f3;rw[hx.r.len];exact len0) rfl rfl
 clear hx
 obtain⟨⟨name,kind,cap,prs,vals,refs,round,⟨mn,ms,ml,mm⟩⟩,pA,pn,pc,vA,vn,vc,rA,rn,rc⟩:=x
 unfold IsB
 unfold obA
 simp only at hnon ⊢
 have HN:=zH hnon
 clear hnon
 generalize Sto.non ⟨name,kind,cap,prs,vals,refs,round,⟨mn,ms,ml,mm⟩⟩=z at *
 have hkd:kind=1∨kind=2∨kind=3∨kind=4∨kind=5∨¬(1≤kind∧kind≤5):=by omega
 have HK:=kn1 w 63 #[.string name,.int .i64 kind,.int .i64 cap,.slice pA pn pc,.slice vA vn vc,.slice rA rn rc,.int .i64 round,.int .i64 mn,.int .u64 (ms:Int),.int .u64 (ml:Int),.int .u64 (mm:Int)]
 rcases hkd with rfl|rfl|rfl|rfl|rfl|hk
 ·by_cases hv:vn=0
  case neg=>
   have gv:((vn:Int)==0)=false:=by simpa using (by omega:¬(vn:Int)=0)
   obtain rfl:z=false:=by rw[HN.out];simp[Sto.h0,Sto.h1,Sto.h2,Sto.h3,Sto.h4,Sto.h5,Mt.zero,hv]
   clear HN
   go_enter Tryz.func148,Tryz.ntmps148
   go_upto_region 1 with fail
   simp only[List.append_eq,lcA,lnA]
   go_wp2_with fail
   go_ret
   exact⟨rfl,HK.out.b⟩
  case pos=>
  subst hv
  by_cases hr:rn=0
  case neg=>
   have gr:((rn:Int)==0)=false:=by simpa using (by omega:¬(rn:Int)=0)
   obtain rfl:z=false:=by rw[HN.out];simp[Sto.h0,Sto.h1,Sto.h2,Sto.h3,Sto.h4,Sto.h5,Mt.zero,hr]
   clear HN
   go_enter Tryz.func148,Tryz.ntmps148
   go_upto_region 1 with fail
   simp only[List.append_eq,lcA,lnA]
   go_wp2_with fail
   go_ret
   exact⟨rfl,HK.out.b⟩
  case pos=>
  subst hr
  by_cases hd:round=0
  case neg=>
   have gd:(round==0)=false:=by simpa using hd
   obtain rfl:z=false:=by rw[HN.out];simp[Sto.h0,Sto.h1,Sto.h2,Sto.h3,Sto.h4,Sto.h5,Mt.zero,hd]
   clear HN
   go_enter Tryz.func148,Tryz.ntmps148
   go_upto_region 1 with fail
   simp only[List.append_eq,lcA,lnA]
   go_wp2_with fail
   go_ret
   exact⟨rfl,HK.out.b⟩
  case pos=>
  subst hd
  by_cases hmn:mn=0
  case neg=>
   obtain rfl:z=false:=by rw[HN.out];simp[Sto.h0,Sto.h1,Sto.h2,Sto.h3,Sto.h4,Sto.h5,Mt.zero,hmn]
   clear HN
   go_enter Tryz.func148,Tryz.ntmps148
   go_upto_region 1 with fail
   simp only[List.append_eq,lcA,lnA]
   go_wp2_with fail
   go_ret
   exact⟨rfl,HK.out.b⟩
  case pos=>
  subst hmn
  by_cases hms:ms=0
  case neg=>
   have gms:¬(ms:Int)=0:=by omega
   obtain rfl:z=false:=by rw[HN.out];simp[Sto.h0,Sto.h1,Sto.h2,Sto.h3,Sto.h4,Sto.h5,Mt.zero,hms]
   clear HN
   go_enter Tryz.func148,Tryz.ntmps148
   go_upto_region 1 with fail
   simp only[List.append_eq,lcA,lnA]
   go_wp2_with fail
   go_ret
   exact⟨rfl,HK.out.b⟩
  case pos=>
  subst hms
  by_cases hml:ml=0
  case neg=>
   have gml:¬(ml:Int)=0:=by omega
   obtain rfl:z=false:=by rw[HN.out];simp[Sto.h0,Sto.h1,Sto.h2,Sto.h3,Sto.h4,Sto.h5,Mt.zero,hml]
   clear HN
   go_enter Tryz.func148,Tryz.ntmps148
   go_upto_region 1 with fail
   simp only[List.append_eq,lcA,lnA]
   go_wp2_with fail
   go_ret
   exact⟨rfl,HK.out.b⟩
  case pos=>
  subst hml
  by_cases hmm:mm=0
  case neg=>
   have gmm:¬(mm:Int)=0:=by omega
   obtain rfl:z=false:=by rw[HN.out];simp[Sto.h0,Sto.h1,Sto.h2,Sto.h3,Sto.h4,Sto.h5,Mt.zero,hmm]
   clear HN
   go_enter Tryz.func148,Tryz.ntmps148
   go_upto_region 1 with fail
   simp only[List.append_eq,lcA,lnA]
   go_wp2_with fail
   go_ret
   exact⟨rfl,HK.out.b⟩
  case pos=>
  subst hmm
  by_cases hc:cap=0
  case neg=>
   have gc:(cap==0)=false:=by simpa using hc
   obtain rfl:z=false:=by rw[HN.out];simp[Sto.h0,Sto.h1,Sto.h2,Sto.h3,Sto.h4,Sto.h5,Mt.zero,hc]
   clear HN
   go_enter Tryz.func148,Tryz.ntmps148
   go_upto_region 1 with fail
   simp only[List.append_eq,lcA,lnA]
   go_wp2_with fail
   go_ret
   exact⟨rfl,HK.out.b⟩
  case pos=>
  subst hc
  obtain rfl:z=true:=by rw[HN.out];simp[Sto.h0,Sto.h1,Sto.h2,Sto.h3,Sto.h4,Sto.h5,Mt.zero]
  clear HN
  go_enter Tryz.func148,Tryz.ntmps148
  go_upto_region 1 with fail
  simp only[List.append_eq,lcA,lnA]
  go_wp2_with fail
  go_ret
  exact⟨rfl,HK.out.b⟩
 ·by_cases hp:pn=0
  case neg=>
   have gp:((pn:Int)==0)=false:=by simpa using (by omega:¬(pn:Int)=0)
   obtain rfl:z=false:=by rw[HN.out];simp[Sto.h0,Sto.h1,Sto.h2,Sto.h3,Sto.h4,Sto.h5,Mt.zero,hp]
   clear HN
   go_enter Tryz.func148,Tryz.ntmps148
   go_upto_region 1 with fail
   simp only[List.append_eq,lcA,lnA]
   go_wp2_with fail
   go_ret
   exact⟨rfl,HK.out.b⟩
  case pos=>
  subst hp
  by_cases hr:rn=0
  case neg=>
   have gr:((rn:Int)==0)=false:=by simpa using (by omega:¬(rn:Int)=0)
   obtain rfl:z=false:=by rw[HN.out];simp[Sto.h0,Sto.h1,Sto.h2,Sto.h3,Sto.h4,Sto.h5,Mt.zero,hr]
   clear HN
   go_enter Tryz.func148,Tryz.ntmps148
   go_upto_region 1 with fail
   simp only[List.append_eq,lcA,lnA]
   go_wp2_with fail
   go_ret
   exact⟨rfl,HK.out.b⟩
  case pos=>
  subst hr
  by_cases hd:round=0
  case neg=>
   have gd:(round==0)=false:=by simpa using hd
   obtain rfl:z=false:=by rw[HN.out];simp[Sto.h0,Sto.h1,Sto.h2,Sto.h3,Sto.h4,Sto.h5,Mt.zero,hd]
   clear HN
   go_enter Tryz.func148,Tryz.ntmps148
   go_upto_region 1 with fail
   simp only[List.append_eq,lcA,lnA]
   go_wp2_with fail
   go_ret
   exact⟨rfl,HK.out.b⟩
  case pos=>
  subst hd
  by_cases hmn:mn=0
  case neg=>
   obtain rfl:z=false:=by rw[HN.out];simp[Sto.h0,Sto.h1,Sto.h2,Sto.h3,Sto.h4,Sto.h5,Mt.zero,hmn]
   clear HN
   go_enter Tryz.func148,Tryz.ntmps148
   go_upto_region 1 with fail
   simp only[List.append_eq,lcA,lnA]
   go_wp2_with fail
   go_ret
   exact⟨rfl,HK.out.b⟩
  case pos=>
  subst hmn
  by_cases hms:ms=0
  case neg=>
   have gms:¬(ms:Int)=0:=by omega
   obtain rfl:z=false:=by rw[HN.out];simp[Sto.h0,Sto.h1,Sto.h2,Sto.h3,Sto.h4,Sto.h5,Mt.zero,hms]
   clear HN
   go_enter Tryz.func148,Tryz.ntmps148
   go_upto_region 1 with fail
   simp only[List.append_eq,lcA,lnA]
   go_wp2_with fail
   go_ret
   exact⟨rfl,HK.out.b⟩
  case pos=>
  subst hms
  by_cases hml:ml=0
  case neg=>
   have gml:¬(ml:Int)=0:=by omega
   obtain rfl:z=false:=by rw[HN.out];simp[Sto.h0,Sto.h1,Sto.h2,Sto.h3,Sto.h4,Sto.h5,Mt.zero,hml]
   clear HN
   go_enter Tryz.func148,Tryz.ntmps148
   go_upto_region 1 with fail
   simp only[List.append_eq,lcA,lnA]
   go_wp2_with fail
   go_ret
   exact⟨rfl,HK.out.b⟩
  case pos=>
  subst hml
  by_cases hmm:mm=0
  case neg=>
   have gmm:¬(mm:Int)=0:=by omega
   obtain rfl:z=false:=by rw[HN.out];simp[Sto.h0,Sto.h1,Sto.h2,Sto.h3,Sto.h4,Sto.h5,Mt.zero,hmm]
   clear HN
   go_enter Tryz.func148,Tryz.ntmps148
   go_upto_region 1 with fail
   simp only[List.append_eq,lcA,lnA]
   go_wp2_with fail
   go_ret
   exact⟨rfl,HK.out.b⟩
  case pos=>
  subst hmm
  obtain rfl:z=true:=by rw[HN.out];simp[Sto.h0,Sto.h1,Sto.h2,Sto.h3,Sto.h4,Sto.h5,Mt.zero]
  clear HN
  go_enter Tryz.func148,Tryz.ntmps148
  go_upto_region 1 with fail
  simp only[List.append_eq,lcA,lnA]
  go_wp2_with fail
  go_ret
  exact⟨rfl,HK.out.b⟩
 ·by_cases hp:pn=0
  case neg=>
   have gp:((pn:Int)==0)=false:=by simpa using (by omega:¬(pn:Int)=0)
   obtain rfl:z=false:=by rw[HN.out];simp[Sto.h0,Sto.h1,Sto.h2,Sto.h3,Sto.h4,Sto.h5,Mt.zero,hp]
   clear HN
   go_enter Tryz.func148,Tryz.ntmps148
   go_upto_region 1 with fail
   simp only[List.append_eq,lcA,lnA]
   go_wp2_with fail
   go_ret
   exact⟨rfl,HK.out.b⟩
  case pos=>
  subst hp
  by_cases hv:vn=0
  case neg=>
   have gv:((vn:Int)==0)=false:=by simpa using (by omega:¬(vn:Int)=0)
   obtain rfl:z=false:=by rw[HN.out];simp[Sto.h0,Sto.h1,Sto.h2,Sto.h3,Sto.h4,Sto.h5,Mt.zero,hv]
   clear HN
   go_enter Tryz.func148,Tryz.ntmps148
   go_upto_region 1 with fail
   simp only[List.append_eq,lcA,lnA]
   go_wp2_with fail
   go_ret
   exact⟨rfl,HK.out.b⟩
  case pos=>
  subst hv
  by_cases hd:round=0
  case neg=>
   have gd:(round==0)=false:=by simpa using hd
   obtain rfl:z=false:=by rw[HN.out];simp[Sto.h0,Sto.h1,Sto.h2,Sto.h3,Sto.h4,Sto.h5,Mt.zero,hd]
   clear HN
   go_enter Tryz.func148,Tryz.ntmps148
   go_upto_region 1 with fail
   simp only[List.append_eq,lcA,lnA]
   go_wp2_with fail
   go_ret
   exact⟨rfl,HK.out.b⟩
  case pos=>
  subst hd
  by_cases hmn:mn=0
  case neg=>
   obtain rfl:z=false:=by rw[HN.out];simp[Sto.h0,Sto.h1,Sto.h2,Sto.h3,Sto.h4,Sto.h5,Mt.zero,hmn]
   clear HN
   go_enter Tryz.func148,Tryz.ntmps148
   go_upto_region 1 with fail
   simp only[List.append_eq,lcA,lnA]
   go_wp2_with fail
   go_ret
   exact⟨rfl,HK.out.b⟩
  case pos=>
  subst hmn
  by_cases hms:ms=0
  case neg=>
   have gms:¬(ms:Int)=0:=by omega
   obtain rfl:z=false:=by rw[HN.out];simp[Sto.h0,Sto.h1,Sto.h2,Sto.h3,Sto.h4,Sto.h5,Mt.zero,hms]
   clear HN
   go_enter Tryz.func148,Tryz.ntmps148
   go_upto_region 1 with fail
   simp only[List.append_eq,lcA,lnA]
   go_wp2_with fail
   go_ret
   exact⟨rfl,HK.out.b⟩
  case pos=>
  subst hms
  by_cases hml:ml=0
  case neg=>
   have gml:¬(ml:Int)=0:=by omega
   obtain rfl:z=false:=by rw[HN.out];simp[Sto.h0,Sto.h1,Sto.h2,Sto.h3,Sto.h4,Sto.h5,Mt.zero,hml]
   clear HN
   go_enter Tryz.func148,Tryz.ntmps148
   go_upto_region 1 with fail
   simp only[List.append_eq,lcA,lnA]
   go_wp2_with fail
   go_ret
   exact⟨rfl,HK.out.b⟩
  case pos=>
  subst hml
  by_cases hmm:mm=0
  case neg=>
   have gmm:¬(mm:Int)=0:=by omega
   obtain rfl:z=false:=by rw[HN.out];simp[Sto.h0,Sto.h1,Sto.h2,Sto.h3,Sto.h4,Sto.h5,Mt.zero,hmm]
   clear HN
   go_enter Tryz.func148,Tryz.ntmps148
   go_upto_region 1 with fail
   simp only[List.append_eq,lcA,lnA]
   go_wp2_with fail
   go_ret
   exact⟨rfl,HK.out.b⟩
  case pos=>
  subst hmm
  by_cases hc:cap=0
  case neg=>
   have gc:(cap==0)=false:=by simpa using hc
   obtain rfl:z=false:=by rw[HN.out];simp[Sto.h0,Sto.h1,Sto.h2,Sto.h3,Sto.h4,Sto.h5,Mt.zero,hc]
   clear HN
   go_enter Tryz.func148,Tryz.ntmps148
   go_upto_region 1 with fail
   simp only[List.append_eq,lcA,lnA]
   go_wp2_with fail
   go_ret
   exact⟨rfl,HK.out.b⟩
  case pos=>
  subst hc
  obtain rfl:z=true:=by rw[HN.out];simp[Sto.h0,Sto.h1,Sto.h2,Sto.h3,Sto.h4,Sto.h5,Mt.zero]
  clear HN
  go_enter Tryz.func148,Tryz.ntmps148
  go_upto_region 1 with fail
  simp only[List.append_eq,lcA,lnA]
  go_wp2_with fail
  go_ret
  exact⟨rfl,HK.out.b⟩
 ·by_cases hp:pn=0
  case neg=>
   have gp:((pn:Int)==0)=false:=by simpa using (by omega:¬(pn:Int)=0)
   obtain rfl:z=false:=by rw[HN.out];simp[Sto.h0,Sto.h1,Sto.h2,Sto.h3,Sto.h4,Sto.h5,Mt.zero,hp]
   clear HN
   go_enter Tryz.func148,Tryz.ntmps148
   go_upto_region 1 with fail
   simp only[List.append_eq,lcA,lnA]
   go_wp2_with fail
   go_ret
   exact⟨rfl,HK.out.b⟩
  case pos=>
  subst hp
  by_cases hv:vn=0
  case neg=>
   have gv:((vn:Int)==0)=false:=by simpa using (by omega:¬(vn:Int)=0)
   obtain rfl:z=false:=by rw[HN.out];simp[Sto.h0,Sto.h1,Sto.h2,Sto.h3,Sto.h4,Sto.h5,Mt.zero,hv]
   clear HN
   go_enter Tryz.func148,Tryz.ntmps148
   go_upto_region 1 with fail
   simp only[List.append_eq,lcA,lnA]
   go_wp2_with fail
   go_ret
   exact⟨rfl,HK.out.b⟩
  case pos=>
  subst hv
  by_cases hmn:mn=0
  case neg=>
   obtain rfl:z=false:=by rw[HN.out];simp[Sto.h0,Sto.h1,Sto.h2,Sto.h3,Sto.h4,Sto.h5,Mt.zero,hmn]
   clear HN
   go_enter Tryz.func148,Tryz.ntmps148
   go_upto_region 1 with fail
   simp only[List.append_eq,lcA,lnA]
   go_wp2_with fail
   go_ret
   exact⟨rfl,HK.out.b⟩
  case pos=>
  subst hmn
  by_cases hms:ms=0
  case neg=>
   have gms:¬(ms:Int)=0:=by omega
   obtain rfl:z=false:=by rw[HN.out];simp[Sto.h0,Sto.h1,Sto.h2,Sto.h3,Sto.h4,Sto.h5,Mt.zero,hms]
   clear HN
   go_enter Tryz.func148,Tryz.ntmps148
   go_upto_region 1 with fail
   simp only[List.append_eq,lcA,lnA]
   go_wp2_with fail
   go_ret
   exact⟨rfl,HK.out.b⟩
  case pos=>
  subst hms
  by_cases hml:ml=0
  case neg=>
   have gml:¬(ml:Int)=0:=by omega
   obtain rfl:z=false:=by rw[HN.out];simp[Sto.h0,Sto.h1,Sto.h2,Sto.h3,Sto.h4,Sto.h5,Mt.zero,hml]
   clear HN
   go_enter Tryz.func148,Tryz.ntmps148
   go_upto_region 1 with fail
   simp only[List.append_eq,lcA,lnA]
   go_wp2_with fail
   go_ret
   exact⟨rfl,HK.out.b⟩
  case pos=>
  subst hml
  by_cases hmm:mm=0
  case neg=>
   have gmm:¬(mm:Int)=0:=by omega
   obtain rfl:z=false:=by rw[HN.out];simp[Sto.h0,Sto.h1,Sto.h2,Sto.h3,Sto.h4,Sto.h5,Mt.zero,hmm]
   clear HN
   go_enter Tryz.func148,Tryz.ntmps148
   go_upto_region 1 with fail
   simp only[List.append_eq,lcA,lnA]
   go_wp2_with fail
   go_ret
   exact⟨rfl,HK.out.b⟩
  case pos=>
  subst hmm
  obtain rfl:z=true:=by rw[HN.out];simp[Sto.h0,Sto.h1,Sto.h2,Sto.h3,Sto.h4,Sto.h5,Mt.zero]
  clear HN
  go_enter Tryz.func148,Tryz.ntmps148
  go_upto_region 1 with fail
  simp only[List.append_eq,lcA,lnA]
  go_wp2_with fail
  go_ret
  exact⟨rfl,HK.out.b⟩
 ·by_cases hp:pn=0
  case neg=>
   have gp:((pn:Int)==0)=false:=by simpa using (by omega:¬(pn:Int)=0)
   obtain rfl:z=false:=by rw[HN.out];simp[Sto.h0,Sto.h1,Sto.h2,Sto.h3,Sto.h4,Sto.h5,Mt.zero,hp]
   clear HN
   go_enter Tryz.func148,Tryz.ntmps148
   go_upto_region 1 with fail
   simp only[List.append_eq,lcA,lnA]
   go_wp2_with fail
   go_ret
   exact⟨rfl,HK.out.b⟩
  case pos=>
  subst hp
  by_cases hv:vn=0
  case neg=>
   have gv:((vn:Int)==0)=false:=by simpa using (by omega:¬(vn:Int)=0)
   obtain rfl:z=false:=by rw[HN.out];simp[Sto.h0,Sto.h1,Sto.h2,Sto.h3,Sto.h4,Sto.h5,Mt.zero,hv]
   clear HN
   go_enter Tryz.func148,Tryz.ntmps148
   go_upto_region 1 with fail
   simp only[List.append_eq,lcA,lnA]
   go_wp2_with fail
   go_ret
   exact⟨rfl,HK.out.b⟩
  case pos=>
  subst hv
  by_cases hr:rn=0
  case neg=>
   have gr:((rn:Int)==0)=false:=by simpa using (by omega:¬(rn:Int)=0)
   obtain rfl:z=false:=by rw[HN.out];simp[Sto.h0,Sto.h1,Sto.h2,Sto.h3,Sto.h4,Sto.h5,Mt.zero,hr]
   clear HN
   go_enter Tryz.func148,Tryz.ntmps148
   go_upto_region 1 with fail
   simp only[List.append_eq,lcA,lnA]
   go_wp2_with fail
   go_ret
   exact⟨rfl,HK.out.b⟩
  case pos=>
  subst hr
  by_cases hd:round=0
  case neg=>
   have gd:(round==0)=false:=by simpa using hd
   obtain rfl:z=false:=by rw[HN.out];simp[Sto.h0,Sto.h1,Sto.h2,Sto.h3,Sto.h4,Sto.h5,Mt.zero,hd]
   clear HN
   go_enter Tryz.func148,Tryz.ntmps148
   go_upto_region 1 with fail
   simp only[List.append_eq,lcA,lnA]
   go_wp2_with fail
   go_ret
   exact⟨rfl,HK.out.b⟩
  case pos=>
  subst hd
  by_cases hc:cap=0
  case neg=>
   have gc:(cap==0)=false:=by simpa using hc
   obtain rfl:z=false:=by rw[HN.out];simp[Sto.h0,Sto.h1,Sto.h2,Sto.h3,Sto.h4,Sto.h5,Mt.zero,hc]
   clear HN
   go_enter Tryz.func148,Tryz.ntmps148
   go_upto_region 1 with fail
   simp only[List.append_eq,lcA,lnA]
   go_wp2_with fail
   go_ret
   exact⟨rfl,HK.out.b⟩
  case pos=>
  subst hc
  obtain rfl:z=true:=by rw[HN.out];simp[Sto.h0,Sto.h1,Sto.h2,Sto.h3,Sto.h4,Sto.h5,Mt.zero]
  clear HN
  go_enter Tryz.func148,Tryz.ntmps148
  go_upto_region 1 with fail
  simp only[List.append_eq,lcA,lnA]
  go_wp2_with fail
  go_ret
  exact⟨rfl,HK.out.b⟩
 ·have n1:¬kind=1:=by omega
  have n2:¬kind=2:=by omega
  have n3:¬kind=3:=by omega
  have n4:¬kind=4:=by omega
  have n5:¬kind=5:=by omega
  clear hk
  by_cases hp:pn=0
  case neg=>
   have gp:((pn:Int)==0)=false:=by simpa using (by omega:¬(pn:Int)=0)
   obtain rfl:z=false:=by rw[HN.out];simp[Sto.h0,Sto.h1,Sto.h2,Sto.h3,Sto.h4,Sto.h5,Mt.zero,n1,n2,n3,n4,n5,hp]
   clear HN
   go_enter Tryz.func148,Tryz.ntmps148
   go_upto_region 1 with fail
   simp only[List.append_eq,lcA,lnA]
   go_wp2_with fail
   go_ret
   exact⟨by first|rfl|simp[n1,n2,n3,n4,n5],HK.out.b⟩
  case pos=>
  subst hp
  by_cases hv:vn=0
  case neg=>
   have gv:((vn:Int)==0)=false:=by simpa using (by omega:¬(vn:Int)=0)
   obtain rfl:z=false:=by rw[HN.out];simp[Sto.h0,Sto.h1,Sto.h2,Sto.h3,Sto.h4,Sto.h5,Mt.zero,n1,n2,n3,n4,n5,hv]
   clear HN
   go_enter Tryz.func148,Tryz.ntmps148
   go_upto_region 1 with fail
   simp only[List.append_eq,lcA,lnA]
   go_wp2_with fail
   go_ret
   exact⟨by first|rfl|simp[n1,n2,n3,n4,n5],HK.out.b⟩
  case pos=>
  subst hv
  by_cases hr:rn=0
  case neg=>
   have gr:((rn:Int)==0)=false:=by simpa using (by omega:¬(rn:Int)=0)
   obtain rfl:z=false:=by rw[HN.out];simp[Sto.h0,Sto.h1,Sto.h2,Sto.h3,Sto.h4,Sto.h5,Mt.zero,n1,n2,n3,n4,n5,hr]
   clear HN
   go_enter Tryz.func148,Tryz.ntmps148
   go_upto_region 1 with fail
   simp only[List.append_eq,lcA,lnA]
   go_wp2_with fail
   go_ret
   exact⟨by first|rfl|simp[n1,n2,n3,n4,n5],HK.out.b⟩
  case pos=>
  subst hr
  by_cases hd:round=0
  case neg=>
   have gd:(round==0)=false:=by simpa using hd
   obtain rfl:z=false:=by rw[HN.out];simp[Sto.h0,Sto.h1,Sto.h2,Sto.h3,Sto.h4,Sto.h5,Mt.zero,n1,n2,n3,n4,n5,hd]
   clear HN
   go_enter Tryz.func148,Tryz.ntmps148
   go_upto_region 1 with fail
   simp only[List.append_eq,lcA,lnA]
   go_wp2_with fail
   go_ret
   exact⟨by first|rfl|simp[n1,n2,n3,n4,n5],HK.out.b⟩
  case pos=>
  subst hd
  by_cases hmn:mn=0
  case neg=>
   obtain rfl:z=false:=by rw[HN.out];simp[Sto.h0,Sto.h1,Sto.h2,Sto.h3,Sto.h4,Sto.h5,Mt.zero,n1,n2,n3,n4,n5,hmn]
   clear HN
   go_enter Tryz.func148,Tryz.ntmps148
   go_upto_region 1 with fail
   simp only[List.append_eq,lcA,lnA]
   go_wp2_with fail
   go_ret
   exact⟨by first|rfl|simp[n1,n2,n3,n4,n5],HK.out.b⟩
  case pos=>
  subst hmn
  by_cases hms:ms=0
  case neg=>
   have gms:¬(ms:Int)=0:=by omega
   obtain rfl:z=false:=by rw[HN.out];simp[Sto.h0,Sto.h1,Sto.h2,Sto.h3,Sto.h4,Sto.h5,Mt.zero,n1,n2,n3,n4,n5,hms]
   clear HN
   go_enter Tryz.func148,Tryz.ntmps148
   go_upto_region 1 with fail
   simp only[List.append_eq,lcA,lnA]
   go_wp2_with fail
   go_ret
   exact⟨by first|rfl|simp[n1,n2,n3,n4,n5],HK.out.b⟩
  case pos=>
  subst hms
  by_cases hml:ml=0
  case neg=>
   have gml:¬(ml:Int)=0:=by omega
   obtain rfl:z=false:=by rw[HN.out];simp[Sto.h0,Sto.h1,Sto.h2,Sto.h3,Sto.h4,Sto.h5,Mt.zero,n1,n2,n3,n4,n5,hml]
   clear HN
   go_enter Tryz.func148,Tryz.ntmps148
   go_upto_region 1 with fail
   simp only[List.append_eq,lcA,lnA]
   go_wp2_with fail
   go_ret
   exact⟨by first|rfl|simp[n1,n2,n3,n4,n5],HK.out.b⟩
  case pos=>
  subst hml
  by_cases hmm:mm=0
  case neg=>
   have gmm:¬(mm:Int)=0:=by omega
   obtain rfl:z=false:=by rw[HN.out];simp[Sto.h0,Sto.h1,Sto.h2,Sto.h3,Sto.h4,Sto.h5,Mt.zero,n1,n2,n3,n4,n5,hmm]
   clear HN
   go_enter Tryz.func148,Tryz.ntmps148
   go_upto_region 1 with fail
   simp only[List.append_eq,lcA,lnA]
   go_wp2_with fail
   go_ret
   exact⟨by first|rfl|simp[n1,n2,n3,n4,n5],HK.out.b⟩
  case pos=>
  subst hmm
  by_cases hc:cap=0
  case neg=>
   have gc:(cap==0)=false:=by simpa using hc
   obtain rfl:z=false:=by rw[HN.out];simp[Sto.h0,Sto.h1,Sto.h2,Sto.h3,Sto.h4,Sto.h5,Mt.zero,n1,n2,n3,n4,n5,hc]
   clear HN
   go_enter Tryz.func148,Tryz.ntmps148
   go_upto_region 1 with fail
   simp only[List.append_eq,lcA,lnA]
   go_wp2_with fail
   go_ret
   exact⟨by first|rfl|simp[n1,n2,n3,n4,n5],HK.out.b⟩
  case pos=>
  subst hc
  obtain rfl:z=true:=by rw[HN.out];simp[Sto.h0,Sto.h1,Sto.h2,Sto.h3,Sto.h4,Sto.h5,Mt.zero,n1,n2,n3,n4,n5]
  clear HN
  go_enter Tryz.func148,Tryz.ntmps148
  go_upto_region 1 with fail
  simp only[List.append_eq,lcA,lnA]
  go_wp2_with fail
  go_ret
  exact⟨by first|rfl|simp[n1,n2,n3,n4,n5],HK.out.b⟩
end
end Go.Proofs.YtieoeendnccafaaGreat
