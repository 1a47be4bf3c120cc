/- What a request is, way by way. No condition but those named. -/
import Derived.Test.YtieoeendnccafaaGreatMTK
import Derived.Test.YtieoeendnccafaaGreatMAI
import Derived.Test.YtieoeendnccafaaGreatMAF
import Derived.Test.YtieoeendnccafaaGreatMAJ
import Derived.Test.YtieoeendnccafaaGreatMAB
set_option linter.unusedSimpArgs false
set_option linter.unusedVariables false
set_option maxRecDepth 100000
set_option maxHeartbeats 25600000
namespace Go.Proofs.YtieoeendnccafaaGreat
section
open Go.RowKit
section
variable {b0:Nat}{w0 w:World}{L:List (Nat×TypeId×Array Value)}{R:List RowE}{o:Oper}{a:Act}{g:Nat}{p:Sto.Rp}
theorem krp_e(HK:Hid (Kn b0 w0 w L R))(i:Nat)(r:Operand)(ho:o.op=.load 23 r)(hL:L[i]?=some (g,28,rpA p))(hx:a.eval r=.pointer (some ⟨g,0,none⟩)):
  (execOp a.eval o).run Tryz.prog w=.ok (.value (.int .i64 p.e)) w:=kexec_lc HK _ r ho i hL hx rfl Tryz.underlying23 rfl
theorem krp_v(HK:Hid (Kn b0 w0 w L R))(i:Nat)(r:Operand)(ho:o.op=.load 26 r)(hL:L[i]?=some (g,28,rpA p))(hx:a.eval r=.pointer (some ⟨g,1,none⟩)):
  (execOp a.eval o).run Tryz.prog w=.ok (.value (.agg #[.int .i64 p.v.k,.int .i64 p.v.n,.int .u64 (p.v.f:Int),.string p.v.s])) w:=
 kexec_ls HK _ r ho i hL hx #[.int .i64 p.v.k,.int .i64 p.v.n,.int .u64 (p.v.f:Int),.string p.v.s] (fun j hj=>by
  match j,hj with
  | 0,_|1,_|2,_|3,_=>rfl) Tryz.underlying26 info_v4
theorem exec_e0l{x:Int}{b:Bool}(q:Operand)(ho:o.op=.binOp .leq 23 (.const (.int .i64 0)) q 23)(hq:a.eval q=.int .i64 x)(hb:decide (0≤x)=b):
  (execOp a.eval o).run Tryz.prog w=.ok (.value (.bool b)) w:=by
 have he:a.eval (.const (.int .i64 0))=.int .i64 0:=rfl
 subst hb
 unfold execOp
 simp only[ho,hq,he]
 go_simp
theorem exec_e0g{x:Int}{b:Bool}(q:Operand)(ho:o.op=.binOp .geq 23 q (.const (.int .i64 0)) 23)(hq:a.eval q=.int .i64 x)(hb:decide (0≤x)=b):
  (execOp a.eval o).run Tryz.prog w=.ok (.value (.bool b)) w:=by
 have he:a.eval (.const (.int .i64 0))=.int .i64 0:=rfl
 subst hb
 unfold execOp
 simp only[ho,hq,he]
 go_simp
theorem exec_e18{x:Int}{b:Bool}(q:Operand)(ho:o.op=.binOp .leq 23 q (.const (.int .i64 18)) 23)(hq:a.eval q=.int .i64 x)(hb:decide (x≤18)=b):
  (execOp a.eval o).run Tryz.prog w=.ok (.value (.bool b)) w:=by
 have he:a.eval (.const (.int .i64 18))=.int .i64 18:=rfl
 subst hb
 unfold execOp
 simp only[ho,hq,he]
 go_simp
end
theorem sreply_any(p:Sto.Rp)(w:World)(hf:p.v.f<18446744073709551616):Calls Tryz.prog 147 #[.agg (rpA p)] w (IsB (Sto.rep p) w):=by
 have HC:=zH (fun W=>check_any p.v W hf)
 have HK:=kn1 w 28 (rpA p)
 unfold IsB Sto.rep
 unfold IsE vv at HC
 generalize h1:decide (0≤p.e)=b1
 have H1:=zH h1
 generalize h2:decide (p.e≤18)=b2
 have H2:=zH h2
 generalize Val.chk p.v=z at *
 clear h1 h2 hf
 cases b1
 ·go_enter Tryz.func147,Tryz.ntmps147
  go_wp2_with (first|refine zX (krp_e HK 0 _ (by rfl) (by rfl) (by rfl)) ?_|refine zX (krp_v HK 0 _ (by rfl) (by rfl) (by rfl)) ?_|refine zX (exec_e0l (x:=p.e) _ (by rfl) (by rfl) H1.out) ?_|refine zX (exec_e0g (x:=p.e) _ (by rfl) (by rfl) H1.out) ?_|refine zX (exec_e18 (x:=p.e) _ (by rfl) (by rfl) H2.out) ?_)
  go_ret
  exact⟨rfl,HK.out.b⟩
 cases b2
 ·go_enter Tryz.func147,Tryz.ntmps147
  go_wp2_with (first|refine zX (krp_e HK 0 _ (by rfl) (by rfl) (by rfl)) ?_|refine zX (krp_v HK 0 _ (by rfl) (by rfl) (by rfl)) ?_|refine zX (exec_e0l (x:=p.e) _ (by rfl) (by rfl) H1.out) ?_|refine zX (exec_e0g (x:=p.e) _ (by rfl) (by rfl) H1.out) ?_|refine zX (exec_e18 (x:=p.e) _ (by rfl) (by rfl) H2.out) ?_)
  go_ret
  exact⟨rfl,HK.out.b⟩
 ·go_enter Tryz.func147,Tryz.ntmps147
  go_wp2_with (first|refine zX (krp_e HK 0 _ (by rfl) (by rfl) (by rfl)) ?_|refine zX (krp_v HK 0 _ (by rfl) (by rfl) (by rfl)) ?_|refine zX (exec_e0l (x:=p.e) _ (by rfl) (by rfl) H1.out) ?_|refine zX (exec_e0g (x:=p.e) _ (by rfl) (by rfl) H1.out) ?_|refine zX (exec_e18 (x:=p.e) _ (by rfl) (by rfl) H2.out) ?_)
  refine(HC.out _).mono ?_;rintro e w1 ⟨rfl,x1⟩
  replace HK:=hkC HK x1
  clear x1
  go_wp2_with fail
  go_ret
  exact⟨rfl,HK.out.b⟩
theorem rreply_any(p:Sto.Rp)(w:World)(hf:p.v.f<18446744073709551616):Calls Tryz.prog 131 #[.agg (rpA p)] w (IsB (Sto.rep p) w):=by
 have HC:=zH (fun W=>rcheck_any p.v W hf)
 have HK:=kn1 w 28 (rpA p)
 unfold IsB Sto.rep
 unfold IsE vv at HC
 generalize h1:decide (0≤p.e)=b1
 have H1:=zH h1
 generalize h2:decide (p.e≤18)=b2
 have H2:=zH h2
 generalize Val.chk p.v=z at *
 clear h1 h2 hf
 cases b1
 ·go_enter Tryz.func131,Tryz.ntmps131
  go_wp2_with (first|refine zX (krp_e HK 0 _ (by rfl) (by rfl) (by rfl)) ?_|refine zX (krp_v HK 0 _ (by rfl) (by rfl) (by rfl)) ?_|refine zX (exec_e0l (x:=p.e) _ (by rfl) (by rfl) H1.out) ?_|refine zX (exec_e0g (x:=p.e) _ (by rfl) (by rfl) H1.out) ?_|refine zX (exec_e18 (x:=p.e) _ (by rfl) (by rfl) H2.out) ?_)
  go_ret
  exact⟨rfl,HK.out.b⟩
 cases b2
 ·go_enter Tryz.func131,Tryz.ntmps131
  go_wp2_with (first|refine zX (krp_e HK 0 _ (by rfl) (by rfl) (by rfl)) ?_|refine zX (krp_v HK 0 _ (by rfl) (by rfl) (by rfl)) ?_|refine zX (exec_e0l (x:=p.e) _ (by rfl) (by rfl) H1.out) ?_|refine zX (exec_e0g (x:=p.e) _ (by rfl) (by rfl) H1.out) ?_|refine zX (exec_e18 (x:=p.e) _ (by rfl) (by rfl) H2.out) ?_)
  go_ret
  exact⟨rfl,HK.out.b⟩
 ·go_enter Tryz.func131,Tryz.ntmps131
  go_wp2_with (first|refine zX (krp_e HK 0 _ (by rfl) (by rfl) (by rfl)) ?_|refine zX (krp_v HK 0 _ (by rfl) (by rfl) (by rfl)) ?_|refine zX (exec_e0l (x:=p.e) _ (by rfl) (by rfl) H1.out) ?_|refine zX (exec_e0g (x:=p.e) _ (by rfl) (by rfl) H1.out) ?_|refine zX (exec_e18 (x:=p.e) _ (by rfl) (by rfl) H2.out) ?_)
  refine(HC.out _).mono ?_;rintro e w1 ⟨rfl,x1⟩
  replace HK:=hkC HK x1
  clear x1
  go_wp2_with fail
  go_ret
  exact⟨rfl,HK.out.b⟩
end
section
open Go.RowKit
theorem ssound_any(s:Ses.S)(w:World)(hf:s.p.v.f<18446744073709551616):Calls Tryz.prog 81 #[.agg (seA s)] w (IsB (Ses.snd s) w):=by
 obtain⟨l,ep,rq,dn,p⟩:=s
 have HC:=zH (fun W=>sreply_any p W hf)
 have HK:=kn1 w 30 (seA ⟨l,ep,rq,dn,p⟩)
 unfold IsB Ses.snd
 unfold IsB at HC
 dsimp only
 generalize h1:decide (0<ep)=b1
 have H1:Hid (decide (ep≤0)=!b1):=zH (by rw[← h1,Bool.eq_iff_iff];simp)
 generalize h2:decide (0≤rq)=b2
 have H2:Hid (decide (rq<0)=!b2):=zH (by rw[← h2,Bool.eq_iff_iff];simp)
 generalize h4:decide (0<rq)=b4
 have H4:=zH h4
 generalize h5:decide (p=Sto.rz)=b5
 have H5:=zH h5
 generalize Sto.rep p=b3 at *
 clear h1 h2 h4 h5 hf
 cases b1
 case false=>
  go_enter Tryz.func81,Tryz.ntmps81
  go_wp2_with (first|refine zX (kse_e HK 0 _ (by rfl) (by rfl) (by rfl)) ?_|refine zX (kse_r HK 0 _ (by rfl) (by rfl) (by rfl)) ?_|refine zX (kse_d HK 0 _ (by rfl) (by rfl) (by rfl)) ?_|refine zX (kse_l HK 0 _ (by rfl) (by rfl) (by rfl)) ?_|refine zX (kse_p HK 0 _ (by rfl) (by rfl) (by rfl)) ?_|refine zX (exec_iLe (m:=ep) (n:=0) _ _ (by rfl) (by rfl) (by rfl) H1.out) ?_|refine zX (exec_iL (m:=rq) (n:=0) _ _ (by rfl) (by rfl) (by rfl) H2.out) ?_|refine zX (exec_iG (m:=rq) (n:=0) _ _ (by rfl) (by rfl) (by rfl) H4.out) ?_|refine zX (exec_rz (by rfl)) ?_|refine zX (exec_rpe (p:=p) (q:=Sto.rz) _ _ (by rfl) (by rfl) (by rfl) H5.out) ?_)
  go_ret
  exact⟨rfl,HK.out.b⟩
 cases b2
 case false=>
  go_enter Tryz.func81,Tryz.ntmps81
  go_wp2_with (first|refine zX (kse_e HK 0 _ (by rfl) (by rfl) (by rfl)) ?_|refine zX (kse_r HK 0 _ (by rfl) (by rfl) (by rfl)) ?_|refine zX (kse_d HK 0 _ (by rfl) (by rfl) (by rfl)) ?_|refine zX (kse_l HK 0 _ (by rfl) (by rfl) (by rfl)) ?_|refine zX (kse_p HK 0 _ (by rfl) (by rfl) (by rfl)) ?_|refine zX (exec_iLe (m:=ep) (n:=0) _ _ (by rfl) (by rfl) (by rfl) H1.out) ?_|refine zX (exec_iL (m:=rq) (n:=0) _ _ (by rfl) (by rfl) (by rfl) H2.out) ?_|refine zX (exec_iG (m:=rq) (n:=0) _ _ (by rfl) (by rfl) (by rfl) H4.out) ?_|refine zX (exec_rz (by rfl)) ?_|refine zX (exec_rpe (p:=p) (q:=Sto.rz) _ _ (by rfl) (by rfl) (by rfl) H5.out) ?_)
  go_ret
  exact⟨rfl,HK.out.b⟩
 cases b3
 case false=>
  go_enter Tryz.func81,Tryz.ntmps81
  go_wp2_with (first|refine zX (kse_e HK 0 _ (by rfl) (by rfl) (by rfl)) ?_|refine zX (kse_r HK 0 _ (by rfl) (by rfl) (by rfl)) ?_|refine zX (kse_d HK 0 _ (by rfl) (by rfl) (by rfl)) ?_|refine zX (kse_l HK 0 _ (by rfl) (by rfl) (by rfl)) ?_|refine zX (kse_p HK 0 _ (by rfl) (by rfl) (by rfl)) ?_|refine zX (exec_iLe (m:=ep) (n:=0) _ _ (by rfl) (by rfl) (by rfl) H1.out) ?_|refine zX (exec_iL (m:=rq) (n:=0) _ _ (by rfl) (by rfl) (by rfl) H2.out) ?_|refine zX (exec_iG (m:=rq) (n:=0) _ _ (by rfl) (by rfl) (by rfl) H4.out) ?_|refine zX (exec_rz (by rfl)) ?_|refine zX (exec_rpe (p:=p) (q:=Sto.rz) _ _ (by rfl) (by rfl) (by rfl) H5.out) ?_)
  refine(HC.out _).mono ?_;rintro e w1 ⟨rfl,b1⟩
  replace HK:=hkC HK b1;clear b1
  go_wp2_with (first|refine zX (kse_e HK 0 _ (by rfl) (by rfl) (by rfl)) ?_|refine zX (kse_r HK 0 _ (by rfl) (by rfl) (by rfl)) ?_|refine zX (kse_d HK 0 _ (by rfl) (by rfl) (by rfl)) ?_|refine zX (kse_l HK 0 _ (by rfl) (by rfl) (by rfl)) ?_|refine zX (kse_p HK 0 _ (by rfl) (by rfl) (by rfl)) ?_|refine zX (exec_iLe (m:=ep) (n:=0) _ _ (by rfl) (by rfl) (by rfl) H1.out) ?_|refine zX (exec_iL (m:=rq) (n:=0) _ _ (by rfl) (by rfl) (by rfl) H2.out) ?_|refine zX (exec_iG (m:=rq) (n:=0) _ _ (by rfl) (by rfl) (by rfl) H4.out) ?_|refine zX (exec_rz (by rfl)) ?_|refine zX (exec_rpe (p:=p) (q:=Sto.rz) _ _ (by rfl) (by rfl) (by rfl) H5.out) ?_)
  go_ret
  exact⟨rfl,HK.out.b⟩
 cases dn
 case true=>
  go_enter Tryz.func81,Tryz.ntmps81
  go_wp2_with (first|refine zX (kse_e HK 0 _ (by rfl) (by rfl) (by rfl)) ?_|refine zX (kse_r HK 0 _ (by rfl) (by rfl) (by rfl)) ?_|refine zX (kse_d HK 0 _ (by rfl) (by rfl) (by rfl)) ?_|refine zX (kse_l HK 0 _ (by rfl) (by rfl) (by rfl)) ?_|refine zX (kse_p HK 0 _ (by rfl) (by rfl) (by rfl)) ?_|refine zX (exec_iLe (m:=ep) (n:=0) _ _ (by rfl) (by rfl) (by rfl) H1.out) ?_|refine zX (exec_iL (m:=rq) (n:=0) _ _ (by rfl) (by rfl) (by rfl) H2.out) ?_|refine zX (exec_iG (m:=rq) (n:=0) _ _ (by rfl) (by rfl) (by rfl) H4.out) ?_|refine zX (exec_rz (by rfl)) ?_|refine zX (exec_rpe (p:=p) (q:=Sto.rz) _ _ (by rfl) (by rfl) (by rfl) H5.out) ?_)
  refine(HC.out _).mono ?_;rintro e w1 ⟨rfl,b1⟩
  replace HK:=hkC HK b1;clear b1
  have k3:=HK.out.cell 0 rfl 3 (v:=.bool true) rfl
  go_wp2_with fail
  go_ret
  exact⟨rfl,HK.out.b⟩
 cases l
 case false=>
  go_enter Tryz.func81,Tryz.ntmps81
  go_wp2_with (first|refine zX (kse_e HK 0 _ (by rfl) (by rfl) (by rfl)) ?_|refine zX (kse_r HK 0 _ (by rfl) (by rfl) (by rfl)) ?_|refine zX (kse_d HK 0 _ (by rfl) (by rfl) (by rfl)) ?_|refine zX (kse_l HK 0 _ (by rfl) (by rfl) (by rfl)) ?_|refine zX (kse_p HK 0 _ (by rfl) (by rfl) (by rfl)) ?_|refine zX (exec_iLe (m:=ep) (n:=0) _ _ (by rfl) (by rfl) (by rfl) H1.out) ?_|refine zX (exec_iL (m:=rq) (n:=0) _ _ (by rfl) (by rfl) (by rfl) H2.out) ?_|refine zX (exec_iG (m:=rq) (n:=0) _ _ (by rfl) (by rfl) (by rfl) H4.out) ?_|refine zX (exec_rz (by rfl)) ?_|refine zX (exec_rpe (p:=p) (q:=Sto.rz) _ _ (by rfl) (by rfl) (by rfl) H5.out) ?_)
  refine(HC.out _).mono ?_;rintro e w1 ⟨rfl,b1⟩
  replace HK:=hkC HK b1;clear b1
  go_wp2_with (first|refine zX (kse_d HK 0 _ (by rfl) (by rfl) (by rfl)) ?_|refine zX (kse_l HK 0 _ (by rfl) (by rfl) (by rfl)) ?_)
  go_ret
  exact⟨rfl,HK.out.b⟩
 cases b4
 case false=>
  go_enter Tryz.func81,Tryz.ntmps81
  go_wp2_with (first|refine zX (kse_e HK 0 _ (by rfl) (by rfl) (by rfl)) ?_|refine zX (kse_r HK 0 _ (by rfl) (by rfl) (by rfl)) ?_|refine zX (kse_d HK 0 _ (by rfl) (by rfl) (by rfl)) ?_|refine zX (kse_l HK 0 _ (by rfl) (by rfl) (by rfl)) ?_|refine zX (kse_p HK 0 _ (by rfl) (by rfl) (by rfl)) ?_|refine zX (exec_iLe (m:=ep) (n:=0) _ _ (by rfl) (by rfl) (by rfl) H1.out) ?_|refine zX (exec_iL (m:=rq) (n:=0) _ _ (by rfl) (by rfl) (by rfl) H2.out) ?_|refine zX (exec_iG (m:=rq) (n:=0) _ _ (by rfl) (by rfl) (by rfl) H4.out) ?_|refine zX (exec_rz (by rfl)) ?_|refine zX (exec_rpe (p:=p) (q:=Sto.rz) _ _ (by rfl) (by rfl) (by rfl) H5.out) ?_)
  refine(HC.out _).mono ?_;rintro e w1 ⟨rfl,b1⟩
  replace HK:=hkC HK b1;clear b1
  go_wp2_with (first|refine zX (kse_d HK 0 _ (by rfl) (by rfl) (by rfl)) ?_|refine zX (kse_l HK 0 _ (by rfl) (by rfl) (by rfl)) ?_|refine zX (kse_r HK 0 _ (by rfl) (by rfl) (by rfl)) ?_|refine zX (exec_iG (m:=rq) (n:=0) _ _ (by rfl) (by rfl) (by rfl) H4.out) ?_)
  go_ret
  exact⟨rfl,HK.out.b⟩
 go_enter Tryz.func81,Tryz.ntmps81
 go_wp2_with (first|refine zX (kse_e HK 0 _ (by rfl) (by rfl) (by rfl)) ?_|refine zX (kse_r HK 0 _ (by rfl) (by rfl) (by rfl)) ?_|refine zX (kse_d HK 0 _ (by rfl) (by rfl) (by rfl)) ?_|refine zX (kse_l HK 0 _ (by rfl) (by rfl) (by rfl)) ?_|refine zX (kse_p HK 0 _ (by rfl) (by rfl) (by rfl)) ?_|refine zX (exec_iLe (m:=ep) (n:=0) _ _ (by rfl) (by rfl) (by rfl) H1.out) ?_|refine zX (exec_iL (m:=rq) (n:=0) _ _ (by rfl) (by rfl) (by rfl) H2.out) ?_|refine zX (exec_iG (m:=rq) (n:=0) _ _ (by rfl) (by rfl) (by rfl) H4.out) ?_|refine zX (exec_rz (by rfl)) ?_|refine zX (exec_rpe (p:=p) (q:=Sto.rz) _ _ (by rfl) (by rfl) (by rfl) H5.out) ?_)
 refine(HC.out _).mono ?_;rintro e w1 ⟨rfl,b1⟩
 replace HK:=hkC HK b1;clear b1
 go_wp2_with (first|refine zX (kse_e HK 0 _ (by rfl) (by rfl) (by rfl)) ?_|refine zX (kse_r HK 0 _ (by rfl) (by rfl) (by rfl)) ?_|refine zX (kse_d HK 0 _ (by rfl) (by rfl) (by rfl)) ?_|refine zX (kse_l HK 0 _ (by rfl) (by rfl) (by rfl)) ?_|refine zX (kse_p HK 0 _ (by rfl) (by rfl) (by rfl)) ?_|refine zX (exec_iLe (m:=ep) (n:=0) _ _ (by rfl) (by rfl) (by rfl) H1.out) ?_|refine zX (exec_iL (m:=rq) (n:=0) _ _ (by rfl) (by rfl) (by rfl) H2.out) ?_|refine zX (exec_iG (m:=rq) (n:=0) _ _ (by rfl) (by rfl) (by rfl) H4.out) ?_|refine zX (exec_rz (by rfl)) ?_|refine zX (exec_rpe (p:=p) (q:=Sto.rz) _ _ (by rfl) (by rfl) (by rfl) H5.out) ?_)
 go_ret
 exact⟨rfl,HK.out.b⟩
theorem slive_any(t:Ses.T)(w:World):Calls Tryz.prog 82 #[.agg (tbA t)] w (IsInt (Ses.live t (-1)) w):=by
 rw[← Ses.cnt5]
 have HK:=kn1 w 31 (tbA t)
 unfold IsInt
 go_enter Tryz.func82,Tryz.ntmps82
 go_wp2_with (first|refine zX (ktb HK 0 _ (by rfl) (by rfl) (by rfl)) ?_)
 go_loopw [3,7] (fun v3 v7 wr=>∃k:Nat,k≤5∧v3=.int .i64 (Ses.cnt t (-1) k)∧v7=.int .i64 k∧Hid (Kn w.heap.size w wr [(w.heap.size,31,tbA t)] [])) (fun _ v7 _=>5-(intOf v7).toNat)
 case atStart=>exact⟨0,Nat.zero_le _,rfl,rfl,HK⟩
 case round=>
  clear HK
  obtain⟨k,hk,rfl,rfl,HK⟩:=hrel
  have hk1:(0:Int)≤(k:Int):=by omega
  by_cases hlt:k<5
  ·have hk2:(k:Int)<(5:Int):=by omega
   have hk3:k<9223372036854775807:=by omega
   have hc:0≤(k:Int)∧(k:Int)<5:=⟨hk1,hk2⟩
   have hcn:=Ses.cnt_le t (-1) k
   have hW:IntKind.i64.wrap (Ses.cnt t (-1) k+1)=Ses.cnt t (-1) k+1:=by rw[IntKind.wrap_i64];omega
   have hS:Ses.cnt t (-1) (k+1)=Ses.cnt t (-1) k+Ses.b2i (t.get (k:Int)).live:=by
    show _+Ses.b2i (_&&!decide ((k:Int) = -1))=_
    rw[decide_eq_false (by omega)]
    simp
   have HW:=zH hW
   have HS:=zH hS
   clear hW hS hcn
   generalize Ses.cnt t (-1) k=z at *
   generalize hs:t.get (k:Int)=s at *
   have HI:Hid (t.get (k:Int)=s):=zH hs
   clear hs
   obtain⟨l,ep,rq,dn,p⟩:=s
   cases l
   ·go_wp2_with (first|refine zX ((exec_ixs (t:=t) hc _ _ (by rfl) (by rfl) (by rfl)).trans (by rw[HI.out])) ?_|(refine wpList_ase HK rfl rfl ?_;intro _ g1 HK';simp only[lcA,lnA] at HK';replace HK:=HK';clear HK')|(refine wpList_sse (u:=⟨false,ep,rq,dn,p⟩) HK 1 rfl _ _ rfl rfl rfl rfl ?_;intro _ HK';simp only[List.set] at HK';replace HK:=HK';clear HK')|refine zX (kse_l HK 1 _ (by rfl) (by rfl) (by rfl)) ?_|refine zX (exec_incz (m:=z) _ (by rfl) (by rfl) HW.out) ?_|refine zX (exec_add1 (j:=k) _ (by rfl) (by rfl) hk3) ?_)
    exact⟨⟨k+1,hlt,by rw[HS.out];simp[Ses.b2i],rfl,zH (HK.out.takeL 1)⟩,by simp[intOf];omega⟩
   ·go_wp2_with (first|refine zX ((exec_ixs (t:=t) hc _ _ (by rfl) (by rfl) (by rfl)).trans (by rw[HI.out])) ?_|(refine wpList_ase HK rfl rfl ?_;intro _ g1 HK';simp only[lcA,lnA] at HK';replace HK:=HK';clear HK')|(refine wpList_sse (u:=⟨true,ep,rq,dn,p⟩) HK 1 rfl _ _ rfl rfl rfl rfl ?_;intro _ HK';simp only[List.set] at HK';replace HK:=HK';clear HK')|refine zX (kse_l HK 1 _ (by rfl) (by rfl) (by rfl)) ?_|refine zX (exec_incz (m:=z) _ (by rfl) (by rfl) HW.out) ?_|refine zX (exec_add1 (j:=k) _ (by rfl) (by rfl) hk3) ?_)
    exact⟨⟨k+1,hlt,by rw[HS.out];simp[Ses.b2i],rfl,zH (HK.out.takeL 1)⟩,by simp[intOf];omega⟩
  ·obtain rfl:k=5:=by omega
   go_wp2_with fail
   go_ret
   exact⟨rfl,HK.out.b⟩
theorem slast_any(s:Ses.S)(w:World):Calls Tryz.prog 63 #[.agg (seA s)] w (IsInt (if s.dn=true then 2 else 3) w):=by
 obtain⟨l,ep,rq,dn,p⟩:=s
 have HK:=kn1 w 30 (seA ⟨l,ep,rq,dn,p⟩)
 unfold IsInt
 cases dn
 ·go_enter Tryz.func63,Tryz.ntmps63
  go_wp2_with (first|refine zX (kse_d HK 0 _ (by rfl) (by rfl) (by rfl)) ?_)
  go_ret
  exact⟨rfl,HK.out.b⟩
 ·go_enter Tryz.func63,Tryz.ntmps63
  go_wp2_with (first|refine zX (kse_d HK 0 _ (by rfl) (by rfl) (by rfl)) ?_)
  go_ret
  exact⟨rfl,HK.out.b⟩
end
section
open Go.RowKit
theorem rseone_any(s:Ses.S)(w:World)(hf:s.p.v.f<18446744073709551616):Calls Tryz.prog 84 #[.agg (seA s)] w (IsB (Ses.one s) w):=by
 obtain⟨l,ep,rq,dn,p⟩:=s
 have HC:=zH (fun W=>rreply_any p W hf)
 have HK:=kn1 w 30 (seA ⟨l,ep,rq,dn,p⟩)
 unfold IsB Ses.one
 unfold IsB at HC
 dsimp only
 by_cases he:ep=0
 ·rw[if_pos he]
  generalize h0:decide ((⟨l,ep,rq,dn,p⟩:Ses.S)=Ses.z)=b0
  have H0:=zH h0
  have H1:Hid (decide (ep=0)=true):=zH (decide_eq_true he)
  clear h0 he
  go_enter Tryz.func84,Tryz.ntmps84
  go_wp2_with (first|refine zX (kse_e HK 0 _ (by rfl) (by rfl) (by rfl)) ?_|refine zX (kse HK 0 _ (by rfl) (by rfl) (by rfl)) ?_|refine zX (exec_iE (m:=ep) (n:=0) _ _ (by rfl) (by rfl) (by rfl) H1.out) ?_|refine zX (exec_bz (by rfl)) ?_|refine zX (exec_seE (s:=⟨l,ep,rq,dn,p⟩) (u:=Ses.z) _ _ (by rfl) (by rfl) (by rfl) H0.out) ?_)
  go_ret
  exact⟨rfl,HK.out.b⟩
 rw[if_neg he]
 have H1:Hid (decide (ep=0)=false):=zH (decide_eq_false he)
 have HZ:Hid ((ep==0)=false):=zH (by rw[beq_eq_false_iff_ne];exact he)
 clear he
 generalize h2:decide (0<ep)=b2
 have H2:=zH h2
 generalize h3:decide (0≤rq)=b3
 have H3:=zH h3
 generalize h5:decide (p=Sto.rz)=b5
 have H5:Hid ((!decide (p=Sto.rz))=!b5):=zH (by rw[h5])
 generalize h6:decide (1≤rq)=b6
 have H6:Hid (decide (rq<1)=!b6):=zH (by rw[← h6,Bool.eq_iff_iff];simp)
 generalize Sto.rep p=b4 at *
 clear h2 h3 h5 h6 hf
 cases dn
 case true=>
  have hz:=HZ.out
  cases b2
  ·have hp:¬0<ep:=of_decide_eq_false H2.out
   have hp2:=H2.out
   go_enter Tryz.func84,Tryz.ntmps84
   have k0:=HK.out.cell 0 rfl 0 (v:=.bool l) rfl;have k1:=HK.out.cell 0 rfl 1 (v:=.int .i64 ep) rfl;have k2:=HK.out.cell 0 rfl 2 (v:=.int .i64 rq) rfl;have k3:=HK.out.cell 0 rfl 3 (v:=.bool true) rfl
   go_wp2_with fail
   go_ret
   exact⟨rfl,HK.out.b⟩
  have hp:0<ep:=of_decide_eq_true H2.out
  have hp2:=H2.out
  cases b3
  ·have hr:¬0≤rq:=of_decide_eq_false H3.out
   have hr2:=H3.out
   go_enter Tryz.func84,Tryz.ntmps84
   have k0:=HK.out.cell 0 rfl 0 (v:=.bool l) rfl;have k1:=HK.out.cell 0 rfl 1 (v:=.int .i64 ep) rfl;have k2:=HK.out.cell 0 rfl 2 (v:=.int .i64 rq) rfl;have k3:=HK.out.cell 0 rfl 3 (v:=.bool true) rfl
   go_wp2_with fail
   go_ret
   exact⟨rfl,HK.out.b⟩
  ·have hr:0≤rq:=of_decide_eq_true H3.out
   have hr2:=H3.out
   go_enter Tryz.func84,Tryz.ntmps84
   have k0:=HK.out.cell 0 rfl 0 (v:=.bool l) rfl;have k1:=HK.out.cell 0 rfl 1 (v:=.int .i64 ep) rfl;have k2:=HK.out.cell 0 rfl 2 (v:=.int .i64 rq) rfl;have k3:=HK.out.cell 0 rfl 3 (v:=.bool true) rfl
   have k4:=HK.out.cell 0 rfl 4 (v:=.int .i64 p.e) rfl
   have k5:=HK.out.cell 0 rfl 5 (v:=.int .i64 p.v.k) rfl
   have k6:=HK.out.cell 0 rfl 6 (v:=.int .i64 p.v.n) rfl
   have k7:=HK.out.cell 0 rfl 7 (v:=.int .u64 (p.v.f:Int)) rfl
   have k8:=HK.out.cell 0 rfl 8 (v:=.string p.v.s) rfl
   go_wp2_with fail
   clear k0 k1 k2 k3 k4 k5 k6 k7 k8
   refine(HC.out _).mono ?_;rintro e w1 ⟨rfl,b1⟩;replace HK:=hkC HK b1;clear b1
   go_wp2_with fail
   go_ret
   exact⟨rfl,HK.out.b⟩
 cases b5
 ·go_enter Tryz.func84,Tryz.ntmps84
  have k0:=HK.out.cell 0 rfl 0 (v:=.bool l) rfl;have k1:=HK.out.cell 0 rfl 1 (v:=.int .i64 ep) rfl;have k2:=HK.out.cell 0 rfl 2 (v:=.int .i64 rq) rfl;have k3:=HK.out.cell 0 rfl 3 (v:=.bool false) rfl
  go_wp2_with (first|refine zX (exec_iE (m:=ep) (n:=0) _ _ (by rfl) (by rfl) (by rfl) H1.out) ?_|refine zX (kse_p HK 0 _ (by rfl) (by rfl) (by rfl)) ?_|refine zX (exec_rpn (p:=p) (q:=Sto.rz) _ _ (by rfl) (by rfl) (by rfl) H5.out) ?_|refine zX (exec_rz (by rfl)) ?_)
  go_ret
  exact⟨rfl,HK.out.b⟩
 cases b6
 ·go_enter Tryz.func84,Tryz.ntmps84
  have k0:=HK.out.cell 0 rfl 0 (v:=.bool l) rfl;have k1:=HK.out.cell 0 rfl 1 (v:=.int .i64 ep) rfl;have k2:=HK.out.cell 0 rfl 2 (v:=.int .i64 rq) rfl;have k3:=HK.out.cell 0 rfl 3 (v:=.bool false) rfl
  go_wp2_with (first|refine zX (exec_iE (m:=ep) (n:=0) _ _ (by rfl) (by rfl) (by rfl) H1.out) ?_|refine zX (kse_p HK 0 _ (by rfl) (by rfl) (by rfl)) ?_|refine zX (exec_rpn (p:=p) (q:=Sto.rz) _ _ (by rfl) (by rfl) (by rfl) H5.out) ?_|refine zX (exec_rz (by rfl)) ?_|refine zX (exec_iL (m:=rq) (n:=1) _ _ (by rfl) (by rfl) (by rfl) H6.out) ?_)
  go_ret
  exact⟨rfl,HK.out.b⟩
 cases l
 ·go_enter Tryz.func84,Tryz.ntmps84
  have k0:=HK.out.cell 0 rfl 0 (v:=.bool false) rfl;have k1:=HK.out.cell 0 rfl 1 (v:=.int .i64 ep) rfl;have k2:=HK.out.cell 0 rfl 2 (v:=.int .i64 rq) rfl;have k3:=HK.out.cell 0 rfl 3 (v:=.bool false) rfl
  go_wp2_with (first|refine zX (exec_iE (m:=ep) (n:=0) _ _ (by rfl) (by rfl) (by rfl) H1.out) ?_|refine zX (kse_p HK 0 _ (by rfl) (by rfl) (by rfl)) ?_|refine zX (exec_rpn (p:=p) (q:=Sto.rz) _ _ (by rfl) (by rfl) (by rfl) H5.out) ?_|refine zX (exec_rz (by rfl)) ?_|refine zX (exec_iL (m:=rq) (n:=1) _ _ (by rfl) (by rfl) (by rfl) H6.out) ?_)
  go_ret
  exact⟨rfl,HK.out.b⟩
 cases b2
 ·go_enter Tryz.func84,Tryz.ntmps84
  have k0:=HK.out.cell 0 rfl 0 (v:=.bool true) rfl;have k1:=HK.out.cell 0 rfl 1 (v:=.int .i64 ep) rfl;have k2:=HK.out.cell 0 rfl 2 (v:=.int .i64 rq) rfl;have k3:=HK.out.cell 0 rfl 3 (v:=.bool false) rfl
  go_wp2_with (first|refine zX (exec_iE (m:=ep) (n:=0) _ _ (by rfl) (by rfl) (by rfl) H1.out) ?_|refine zX (kse_p HK 0 _ (by rfl) (by rfl) (by rfl)) ?_|refine zX (exec_rpn (p:=p) (q:=Sto.rz) _ _ (by rfl) (by rfl) (by rfl) H5.out) ?_|refine zX (exec_rz (by rfl)) ?_|refine zX (exec_iL (m:=rq) (n:=1) _ _ (by rfl) (by rfl) (by rfl) H6.out) ?_|refine zX (exec_iG (m:=ep) (n:=0) _ _ (by rfl) (by rfl) (by rfl) H2.out) ?_)
  go_ret
  exact⟨rfl,HK.out.b⟩
 cases b3
 ·go_enter Tryz.func84,Tryz.ntmps84
  have k0:=HK.out.cell 0 rfl 0 (v:=.bool true) rfl;have k1:=HK.out.cell 0 rfl 1 (v:=.int .i64 ep) rfl;have k2:=HK.out.cell 0 rfl 2 (v:=.int .i64 rq) rfl;have k3:=HK.out.cell 0 rfl 3 (v:=.bool false) rfl
  go_wp2_with (first|refine zX (exec_iE (m:=ep) (n:=0) _ _ (by rfl) (by rfl) (by rfl) H1.out) ?_|refine zX (kse_p HK 0 _ (by rfl) (by rfl) (by rfl)) ?_|refine zX (exec_rpn (p:=p) (q:=Sto.rz) _ _ (by rfl) (by rfl) (by rfl) H5.out) ?_|refine zX (exec_rz (by rfl)) ?_|refine zX (exec_iL (m:=rq) (n:=1) _ _ (by rfl) (by rfl) (by rfl) H6.out) ?_|refine zX (exec_iG (m:=ep) (n:=0) _ _ (by rfl) (by rfl) (by rfl) H2.out) ?_|refine zX (exec_iGe (m:=rq) (n:=0) _ _ (by rfl) (by rfl) (by rfl) H3.out) ?_)
  go_ret
  exact⟨rfl,HK.out.b⟩
 ·go_enter Tryz.func84,Tryz.ntmps84
  have k0:=HK.out.cell 0 rfl 0 (v:=.bool true) rfl;have k1:=HK.out.cell 0 rfl 1 (v:=.int .i64 ep) rfl;have k2:=HK.out.cell 0 rfl 2 (v:=.int .i64 rq) rfl;have k3:=HK.out.cell 0 rfl 3 (v:=.bool false) rfl
  go_wp2_with (first|refine zX (exec_iE (m:=ep) (n:=0) _ _ (by rfl) (by rfl) (by rfl) H1.out) ?_|refine zX (kse_p HK 0 _ (by rfl) (by rfl) (by rfl)) ?_|refine zX (exec_rpn (p:=p) (q:=Sto.rz) _ _ (by rfl) (by rfl) (by rfl) H5.out) ?_|refine zX (exec_rz (by rfl)) ?_|refine zX (exec_iL (m:=rq) (n:=1) _ _ (by rfl) (by rfl) (by rfl) H6.out) ?_|refine zX (exec_iG (m:=ep) (n:=0) _ _ (by rfl) (by rfl) (by rfl) H2.out) ?_|refine zX (exec_iGe (m:=rq) (n:=0) _ _ (by rfl) (by rfl) (by rfl) H3.out) ?_)
  clear k0 k1 k2 k3
  refine(HC.out _).mono ?_;rintro e w1 ⟨rfl,b1⟩;replace HK:=hkC HK b1;clear b1
  go_wp2_with fail
  go_ret
  exact⟨rfl,HK.out.b⟩
theorem rlive_any(t:Ses.T)(q:Int)(w:World):Calls Tryz.prog 85 #[.agg (tbA t),.int .i64 q] w (IsInt (Ses.live t q) w):=by
 rw[← Ses.cnt5]
 have HK:=kn1 w 31 (tbA t)
 unfold IsInt
 go_enter Tryz.func85,Tryz.ntmps85
 go_wp2_with fail
 go_loopw [5,6] (fun v5 v6 wr=>∃k:Nat,k≤5∧v5=.int .i64 (Ses.cnt t q k)∧v6=.int .i64 k∧Hid (Kn w.heap.size w wr [(w.heap.size,31,tbA t)] [])) (fun _ v6 _=>5-(intOf v6).toNat)
 case atStart=>exact⟨0,Nat.zero_le _,rfl,rfl,HK⟩
 case round=>
  clear HK
  obtain⟨k,hk,rfl,rfl,HK⟩:=hrel
  have hk1:(0:Int)≤(k:Int):=by omega
  by_cases hlt:k<5
  ·have hk2:(k:Int)<(5:Int):=by omega
   have hk3:k<9223372036854775807:=by omega
   have hc:0≤(k:Int)∧(k:Int)<5:=⟨hk1,hk2⟩
   have hcn:=Ses.cnt_le t q k
   have hW:IntKind.i64.wrap (Ses.cnt t q k+1)=Ses.cnt t q k+1:=by rw[IntKind.wrap_i64];omega
   have HW:=zH hW
   have HS:Hid (Ses.cnt t q (k+1)=Ses.cnt t q k+Ses.b2i ((t.get (k:Int)).live&&!decide ((k:Int)=q))):=zH rfl
   clear hW hcn
   generalize Ses.cnt t q k=z at *
   have HL:Hid (∀{o:Oper} {a:Act} (x:Operand),o.op=.load 4 x→a.eval x=.pointer (some ⟨w.heap.size,(k:Int).toNat*9,none⟩)→(execOp a.eval o).run Tryz.prog wr=.ok (.value (.bool (t.get (k:Int)).live)) wr):=zH (fun x ho hx=>kts_l HK 0 hc x ho rfl hx)
   generalize hl:(t.get (k:Int)).live=l at *
   clear hl
   generalize hq:decide ((k:Int)=q)=b at *
   have HQ:Hid ((!decide ((k:Int)=q))=!b):=zH (by rw[hq])
   clear hq
   cases l
   ·go_wp2_with (first|refine zX (exec_ixt hc _ _ (by rfl) (by rfl) (by rfl)) ?_|refine zX (HL.out _ (by rfl) (by rfl)) ?_|refine zX (exec_add1 (j:=k) _ (by rfl) (by rfl) hk3) ?_)
    exact⟨⟨k+1,hlt,by rw[HS.out];simp[Ses.b2i],rfl,HK⟩,by simp[intOf];omega⟩
   cases b
   ·go_wp2_with (first|refine zX (exec_ixt hc _ _ (by rfl) (by rfl) (by rfl)) ?_|refine zX (HL.out _ (by rfl) (by rfl)) ?_|refine zX (exec_iN (m:=(k:Int)) (n:=q) _ _ (by rfl) (by rfl) (by rfl) HQ.out) ?_|refine zX (exec_incz (m:=z) _ (by rfl) (by rfl) HW.out) ?_|refine zX (exec_add1 (j:=k) _ (by rfl) (by rfl) hk3) ?_)
    exact⟨⟨k+1,hlt,by rw[HS.out];simp[Ses.b2i],rfl,HK⟩,by simp[intOf];omega⟩
   ·go_wp2_with (first|refine zX (exec_ixt hc _ _ (by rfl) (by rfl) (by rfl)) ?_|refine zX (HL.out _ (by rfl) (by rfl)) ?_|refine zX (exec_iN (m:=(k:Int)) (n:=q) _ _ (by rfl) (by rfl) (by rfl) HQ.out) ?_|refine zX (exec_incz (m:=z) _ (by rfl) (by rfl) HW.out) ?_|refine zX (exec_add1 (j:=k) _ (by rfl) (by rfl) hk3) ?_)
    exact⟨⟨k+1,hlt,by rw[HS.out];simp[Ses.b2i],rfl,HK⟩,by simp[intOf];omega⟩
  ·obtain rfl:k=5:=by omega
   go_wp2_with fail
   go_ret
   exact⟨rfl,HK.out.b⟩
end
section
open Go.RowKit
theorem sright_any(t:Ses.T)(w:World)(hf:Ses.Fit t):Calls Tryz.prog 36 #[.agg (tbA t)] w (IsB (decide (Ses.Right t)) w):=by
 have HYes:=zH (Ses.right_all t)
 have HNo:=zH (fun(c:Int) hc=>Ses.right_no (t:=t) (c:=c) hc)
 have HL:=zH (fun W=>slive_any t W)
 have HF:=zH hf
 have HK:=kn1 w 31 (tbA t)
 unfold IsB
 unfold IsInt at HL
 clear hf
 generalize decide (Ses.Right t)=r at *
 go_enter Tryz.func36,Tryz.ntmps36
 go_wp2_with (first|refine zX (ktb HK 0 _ (by rfl) (by rfl) (by rfl)) ?_)
 go_loopw [6] (fun v6 wr=>∃k:Nat,k≤5∧v6=.int .i64 k∧Hid (∀c:Int,0≤c∧c<(k:Int)→Ses.one (t.get c)=true)∧Hid (Kn w.heap.size w wr [(w.heap.size,31,tbA t)] [])) (fun v6 _=>5-(intOf v6).toNat)
 case atStart=>exact⟨0,Nat.zero_le _,rfl,zH (fun c hc=>by omega),HK⟩
 case round=>
  clear HK
  obtain⟨k,hk,rfl,HGo,HK⟩:=hrel
  have hk1:(0:Int)≤(k:Int):=by omega
  by_cases hlt:k<5
  ·have hk2:(k:Int)<(5:Int):=by omega
   have hk3:k<9223372036854775807:=by omega
   have hc:0≤(k:Int)∧(k:Int)<5:=⟨hk1,hk2⟩
   have HN:=zH (HNo.out (k:Int) hc)
   have HC:=zH (fun W=>ssound_any (t.get (k:Int)) W (HF.out _ hc))
   have HOne:=zH (Ses.one_snd (t.get (k:Int)))
   have HGk:Hid (Ses.one (t.get (k:Int))=true→∀c:Int,0≤c∧c<((k+1:Nat):Int)→Ses.one (t.get c)=true):=zH fun h c hc=>by
    by_cases e:c=(k:Int)
    ·rw[e];exact h
    ·exact HGo.out c (by omega)
   generalize hs:t.get (k:Int)=s at *
   have HI:Hid (t.get (k:Int)=s):=zH hs
   clear hs
   unfold IsB at HC
   generalize h0:decide (s=Ses.z)=b0 at *
   have H0:Hid ((!decide (s=Ses.z))=!b0):=zH (by rw[h0])
   clear h0
   generalize Ses.snd s=b1 at *
   cases b0
   ·cases b1
    ·have HR:=zH (HN.out (by rw[HOne.out];rfl))
     clear HGk HOne HN
     go_wp2_with (first|refine zX ((exec_ixs (t:=t) hc _ _ (by rfl) (by rfl) (by rfl)).trans (by rw[HI.out])) ?_|(refine wpList_ase HK rfl rfl ?_;intro _ g1 HK';simp only[lcA,lnA] at HK';replace HK:=HK';clear HK')|(refine wpList_sse (u:=s) HK 1 rfl _ _ rfl rfl rfl rfl ?_;intro _ HK';simp only[List.set] at HK';replace HK:=HK';clear HK')|refine zX (kse HK 1 _ (by rfl) (by rfl) (by rfl)) ?_|refine zX (exec_bz (by rfl)) ?_|refine zX (exec_seN (s:=s) (u:=Ses.z) _ _ (by rfl) (by rfl) (by rfl) H0.out) ?_)
     refine(HC.out _).mono ?_;rintro e w1 ⟨rfl,b1⟩
     replace HK:=hkC HK b1;clear b1
     go_wp2_with fail
     go_ret
     exact⟨by rw[HR.out]<;>rfl,HK.out.b⟩
    ·replace HGk:=zH (HGk.out (by rw[HOne.out];rfl))
     clear HOne HN
     go_wp2_with (first|refine zX ((exec_ixs (t:=t) hc _ _ (by rfl) (by rfl) (by rfl)).trans (by rw[HI.out])) ?_|(refine wpList_ase HK rfl rfl ?_;intro _ g1 HK';simp only[lcA,lnA] at HK';replace HK:=HK';clear HK')|(refine wpList_sse (u:=s) HK 1 rfl _ _ rfl rfl rfl rfl ?_;intro _ HK';simp only[List.set] at HK';replace HK:=HK';clear HK')|refine zX (kse HK 1 _ (by rfl) (by rfl) (by rfl)) ?_|refine zX (exec_bz (by rfl)) ?_|refine zX (exec_seN (s:=s) (u:=Ses.z) _ _ (by rfl) (by rfl) (by rfl) H0.out) ?_)
     refine(HC.out _).mono ?_;rintro e w1 ⟨rfl,b1⟩
     replace HK:=hkC HK b1;clear b1
     go_wp2_with (first|refine zX (exec_add1 (j:=k) _ (by rfl) (by rfl) hk3) ?_)
     exact⟨⟨k+1,hlt,rfl,HGk,zH (HK.out.takeL 1)⟩,by simp[intOf];omega⟩
   ·replace HGk:=zH (HGk.out (by rw[HOne.out];rfl))
    clear HOne HN
    go_wp2_with (first|refine zX ((exec_ixs (t:=t) hc _ _ (by rfl) (by rfl) (by rfl)).trans (by rw[HI.out])) ?_|(refine wpList_ase HK rfl rfl ?_;intro _ g1 HK';simp only[lcA,lnA] at HK';replace HK:=HK';clear HK')|(refine wpList_sse (u:=s) HK 1 rfl _ _ rfl rfl rfl rfl ?_;intro _ HK';simp only[List.set] at HK';replace HK:=HK';clear HK')|refine zX (kse HK 1 _ (by rfl) (by rfl) (by rfl)) ?_|refine zX (exec_bz (by rfl)) ?_|refine zX (exec_seN (s:=s) (u:=Ses.z) _ _ (by rfl) (by rfl) (by rfl) H0.out) ?_|refine zX (exec_add1 (j:=k) _ (by rfl) (by rfl) hk3) ?_)
    exact⟨⟨k+1,hlt,rfl,HGk,zH (HK.out.takeL 1)⟩,by simp[intOf];omega⟩
  ·obtain rfl:k=5:=by omega
   have HR:=zH (HYes.out HGo.out)
   go_wp2_with (first|refine zX (ktb HK 0 _ (by rfl) (by rfl) (by rfl)) ?_)
   refine(HL.out _).mono ?_;rintro e w1 ⟨rfl,b1⟩
   replace HK:=hkC HK b1;clear b1
   generalize Ses.live t (-1)=z at *
   go_wp2_with (first|refine zX (exec_iLe (m:=z) (n:=4) _ _ (by rfl) (by rfl) (by rfl) HR.out.symm) ?_)
   go_ret
   exact⟨rfl,HK.out.b⟩
theorem rsesright_any(t:Ses.T)(w:World)(hf:Ses.Fit t):Calls Tryz.prog 41 #[.agg (tbA t)] w (IsB (decide (Ses.Right t)) w):=by
 have HYes:=zH (Ses.right_all t)
 have HNo:=zH (fun(c:Int) hc=>Ses.right_no (t:=t) (c:=c) hc)
 have HL:=zH (fun W=>rlive_any t (-1) W)
 have HF:=zH hf
 have HK:=kn1 w 31 (tbA t)
 unfold IsB
 unfold IsInt at HL
 clear hf
 generalize decide (Ses.Right t)=r at *
 go_enter Tryz.func41,Tryz.ntmps41
 go_wp2_with fail
 go_loopw [3] (fun v6 wr=>∃k:Nat,k≤5∧v6=.int .i64 k∧Hid (∀c:Int,0≤c∧c<(k:Int)→Ses.one (t.get c)=true)∧Hid (Kn w.heap.size w wr [(w.heap.size,31,tbA t)] [])) (fun v6 _=>5-(intOf v6).toNat)
 case atStart=>exact⟨0,Nat.zero_le _,rfl,zH (fun c hc=>by omega),HK⟩
 case round=>
  clear HK
  obtain⟨k,hk,rfl,HGo,HK⟩:=hrel
  have hk1:(0:Int)≤(k:Int):=by omega
  by_cases hlt:k<5
  ·have hk2:(k:Int)<(5:Int):=by omega
   have hk3:k<9223372036854775807:=by omega
   have hc:0≤(k:Int)∧(k:Int)<5:=⟨hk1,hk2⟩
   have HN:=zH (HNo.out (k:Int) hc)
   have HC:=zH (fun W=>rseone_any (t.get (k:Int)) W (HF.out _ hc))
   have HGk:Hid (Ses.one (t.get (k:Int))=true→∀c:Int,0≤c∧c<((k+1:Nat):Int)→Ses.one (t.get c)=true):=zH fun h c hc=>by
    by_cases e:c=(k:Int)
    ·rw[e];exact h
    ·exact HGo.out c (by omega)
   unfold IsB at HC
   generalize Ses.one (t.get (k:Int))=b1 at *
   go_wp2_with (first|refine zX (exec_ixt hc _ _ (by rfl) (by rfl) (by rfl)) ?_|refine zX (kts HK 0 hc _ (by rfl) (by rfl) (by rfl)) ?_)
   refine(HC.out _).mono ?_;rintro e w1 ⟨rfl,b1⟩
   replace HK:=hkC HK b1;clear b1
   cases b1
   ·have HR:=zH (HN.out rfl)
    clear HGk HN
    go_wp2_with fail
    go_ret
    exact⟨by rw[HR.out]<;>rfl,HK.out.b⟩
   ·replace HGk:=zH (HGk.out rfl)
    clear HN
    go_wp2_with (first|refine zX (exec_add1 (j:=k) _ (by rfl) (by rfl) hk3) ?_)
    exact⟨⟨k+1,hlt,rfl,HGk,HK⟩,by simp[intOf];omega⟩
  ·obtain rfl:k=5:=by omega
   have HR:=zH (HYes.out HGo.out)
   go_wp2_with (first|refine zX (ktb HK 0 _ (by rfl) (by rfl) (by rfl)) ?_)
   refine(HL.out _).mono ?_;rintro e w1 ⟨rfl,b1⟩
   replace HK:=hkC HK b1;clear b1
   generalize Ses.live t (-1)=z at *
   go_wp2_with (first|refine zX (exec_iLe (m:=z) (n:=4) _ _ (by rfl) (by rfl) (by rfl) HR.out.symm) ?_)
   go_ret
   exact⟨rfl,HK.out.b⟩
end
section
namespace Ses
def lookB(b1 b2 b3 b4 b5 l b6 d:Bool):Int:=if (b1&&b2)=true then 1 else if (b3 || b4)=true then 5 else if b5=true then (if d=true then 2 else 3) else if l=false then 4 else if (b6&&d)=true then 1 else 5
theorem look_b(s:S)(r:Rf):lookS s r=lookB (decide (r.r=0)) (decide (s.ep<r.e)) (!decide (r.e=s.ep)) (decide (r.r<s.rq)) (decide (r.r=s.rq)) s.live (decide (r.r-1=s.rq)) s.dn:=by
 unfold lookS lookB
 congr 1
 ·simp
 ·congr 1
  ·simp
  ·simp
def lookW(t:T)(r:Rf):Int:=if Lck.ok r∧Right t then lookB (decide (r.r=0)) (decide ((t.get r.c).ep<r.e)) (!decide (r.e=(t.get r.c).ep)) (decide (r.r<(t.get r.c).rq)) (decide (r.r=(t.get r.c).rq)) (t.get r.c).live (decide (IntKind.i64.wrap (r.r-1)=(t.get r.c).rq)) (t.get r.c).dn else 5
theorem lookW_ok{t:T}{r:Rf}(h1:decide (Lck.ok r)=true)(h2:decide (Right t)=true):lookW t r=lookB (decide (r.r=0)) (decide ((t.get r.c).ep<r.e)) (!decide (r.e=(t.get r.c).ep)) (decide (r.r<(t.get r.c).rq)) (decide (r.r=(t.get r.c).rq)) (t.get r.c).live (decide (IntKind.i64.wrap (r.r-1)=(t.get r.c).rq)) (t.get r.c).dn:=if_pos ⟨of_decide_eq_true h1,of_decide_eq_true h2⟩
theorem lookW_no1{t:T}{r:Rf}(h1:decide (Lck.ok r)=false):lookW t r=5:=if_neg fun h=>of_decide_eq_false h1 h.1
theorem lookW_no2{t:T}{r:Rf}(h2:decide (Right t)=false):lookW t r=5:=if_neg fun h=>of_decide_eq_false h2 h.2
theorem lookB_3(b1 b2 b3 b4 b5 l b6 b7 d:Bool):decide (lookB b1 b2 b3 b4 b5 l b6 d=3)=decide (lookB b1 b2 b3 b4 b5 l b7 d=3):=by
 cases b1<;>cases b2<;>cases b3<;>cases b4<;>cases b5<;>cases l<;>cases b6<;>cases b7<;>cases d<;>rfl
theorem lookW_3(t:T)(r:Rf):decide (lookW t r=3)=decide (look t r=3):=by
 unfold lookW look
 by_cases g:Lck.ok r∧Right t
 ·rw[if_pos g,if_pos g,look_b]
  exact lookB_3 ..
 ·rw[if_neg g,if_neg g]
end Ses
end
end Go.Proofs.YtieoeendnccafaaGreat
