/- What session.Look and the document's Look return. No condition but those named. -/
import Derived.Test.YtddpmlcpfmmbeaaGreatTk
import Derived.Test.YtddpmlcpfmmbeaaGreatKAG
import Derived.Test.YtddpmlcpfmmbeaaGreatKBD
import Derived.Test.YtddpmlcpfmmbeaaGreatKAA
import Derived.Test.YtddpmlcpfmmbeaaGreatKAQ
import Derived.Deep.DeepCutAuto
set_option linter.unusedSimpArgs false
set_option linter.unusedVariables false
set_option maxRecDepth 100000
set_option maxHeartbeats 25600000
namespace Go.Proofs.YtddpmlcpfmmbeaaGreat
section
open Go.RowKit
theorem ssound_any(s:Ses.S)(w:World)(hf:s.p.v.f<18446744073709551616):Calls Tryz.prog 68 #[.agg (seA s)] w (IsB (Ses.snd s) w):=by
 obtain⟨l,ep,rq,dn,p⟩:=s
 have HC:=zH (fun W=>sreply_any p W hf)
 have HK:=kn1 w 30 (seA ⟨l,ep,rq,dn,p⟩)
 unfold IsB Ses.snd
 unfold IsB at HC
 dsimp only
 generalize h1:decide (0<ep)=b1
 have H1:Hid (decide (ep≤0)=!b1):=zH (by rw[← h1,Bool.eq_iff_iff];simp)
 generalize h2:decide (0≤rq)=b2
 have H2:Hid (decide (rq<0)=!b2):=zH (by rw[← h2,Bool.eq_iff_iff];simp)
 generalize h4:decide (0<rq)=b4
 have H4:=zH h4
 generalize h5:decide (p=Sto.rz)=b5
 have H5:=zH h5
 generalize Sto.rep p=b3 at *
 clear h1 h2 h4 h5 hf
 cases b1
 case false=>
  go_enter Tryz.func68,Tryz.ntmps68
  go_wp2_with (first|refine wpList_exe (kse_e HK 0 _ (by rfl) (by rfl) (by rfl)) (by rfl) ?_|refine wpList_exe (kse_r HK 0 _ (by rfl) (by rfl) (by rfl)) (by rfl) ?_|refine wpList_exe (kse_d HK 0 _ (by rfl) (by rfl) (by rfl)) (by rfl) ?_|refine wpList_exe (kse_l HK 0 _ (by rfl) (by rfl) (by rfl)) (by rfl) ?_|refine wpList_exe (kse_p HK 0 _ (by rfl) (by rfl) (by rfl)) (by rfl) ?_|refine wpList_exe (exec_iLe (m:=ep) (n:=0) _ _ (by rfl) (by rfl) (by rfl) H1.out) (by rfl) ?_|refine wpList_exe (exec_iL (m:=rq) (n:=0) _ _ (by rfl) (by rfl) (by rfl) H2.out) (by rfl) ?_|refine wpList_exe (exec_iG (m:=rq) (n:=0) _ _ (by rfl) (by rfl) (by rfl) H4.out) (by rfl) ?_|refine wpList_exe (exec_rz (by rfl)) (by rfl) ?_|refine wpList_exe (exec_rpe (p:=p) (q:=Sto.rz) _ _ (by rfl) (by rfl) (by rfl) H5.out) (by rfl) ?_)
  go_ret
  exact⟨rfl,HK.out.b⟩
 cases b2
 case false=>
  go_enter Tryz.func68,Tryz.ntmps68
  go_wp2_with (first|refine wpList_exe (kse_e HK 0 _ (by rfl) (by rfl) (by rfl)) (by rfl) ?_|refine wpList_exe (kse_r HK 0 _ (by rfl) (by rfl) (by rfl)) (by rfl) ?_|refine wpList_exe (kse_d HK 0 _ (by rfl) (by rfl) (by rfl)) (by rfl) ?_|refine wpList_exe (kse_l HK 0 _ (by rfl) (by rfl) (by rfl)) (by rfl) ?_|refine wpList_exe (kse_p HK 0 _ (by rfl) (by rfl) (by rfl)) (by rfl) ?_|refine wpList_exe (exec_iLe (m:=ep) (n:=0) _ _ (by rfl) (by rfl) (by rfl) H1.out) (by rfl) ?_|refine wpList_exe (exec_iL (m:=rq) (n:=0) _ _ (by rfl) (by rfl) (by rfl) H2.out) (by rfl) ?_|refine wpList_exe (exec_iG (m:=rq) (n:=0) _ _ (by rfl) (by rfl) (by rfl) H4.out) (by rfl) ?_|refine wpList_exe (exec_rz (by rfl)) (by rfl) ?_|refine wpList_exe (exec_rpe (p:=p) (q:=Sto.rz) _ _ (by rfl) (by rfl) (by rfl) H5.out) (by rfl) ?_)
  go_ret
  exact⟨rfl,HK.out.b⟩
 cases b3
 case false=>
  go_enter Tryz.func68,Tryz.ntmps68
  go_wp2_with (first|refine wpList_exe (kse_e HK 0 _ (by rfl) (by rfl) (by rfl)) (by rfl) ?_|refine wpList_exe (kse_r HK 0 _ (by rfl) (by rfl) (by rfl)) (by rfl) ?_|refine wpList_exe (kse_d HK 0 _ (by rfl) (by rfl) (by rfl)) (by rfl) ?_|refine wpList_exe (kse_l HK 0 _ (by rfl) (by rfl) (by rfl)) (by rfl) ?_|refine wpList_exe (kse_p HK 0 _ (by rfl) (by rfl) (by rfl)) (by rfl) ?_|refine wpList_exe (exec_iLe (m:=ep) (n:=0) _ _ (by rfl) (by rfl) (by rfl) H1.out) (by rfl) ?_|refine wpList_exe (exec_iL (m:=rq) (n:=0) _ _ (by rfl) (by rfl) (by rfl) H2.out) (by rfl) ?_|refine wpList_exe (exec_iG (m:=rq) (n:=0) _ _ (by rfl) (by rfl) (by rfl) H4.out) (by rfl) ?_|refine wpList_exe (exec_rz (by rfl)) (by rfl) ?_|refine wpList_exe (exec_rpe (p:=p) (q:=Sto.rz) _ _ (by rfl) (by rfl) (by rfl) H5.out) (by rfl) ?_)
  refine(HC.out _).mono ?_;rintro e w1 ⟨rfl,b1⟩
  replace HK:=hkC HK b1;clear b1
  go_wp2_with (first|refine wpList_exe (kse_e HK 0 _ (by rfl) (by rfl) (by rfl)) (by rfl) ?_|refine wpList_exe (kse_r HK 0 _ (by rfl) (by rfl) (by rfl)) (by rfl) ?_|refine wpList_exe (kse_d HK 0 _ (by rfl) (by rfl) (by rfl)) (by rfl) ?_|refine wpList_exe (kse_l HK 0 _ (by rfl) (by rfl) (by rfl)) (by rfl) ?_|refine wpList_exe (kse_p HK 0 _ (by rfl) (by rfl) (by rfl)) (by rfl) ?_|refine wpList_exe (exec_iLe (m:=ep) (n:=0) _ _ (by rfl) (by rfl) (by rfl) H1.out) (by rfl) ?_|refine wpList_exe (exec_iL (m:=rq) (n:=0) _ _ (by rfl) (by rfl) (by rfl) H2.out) (by rfl) ?_|refine wpList_exe (exec_iG (m:=rq) (n:=0) _ _ (by rfl) (by rfl) (by rfl) H4.out) (by rfl) ?_|refine wpList_exe (exec_rz (by rfl)) (by rfl) ?_|refine wpList_exe (exec_rpe (p:=p) (q:=Sto.rz) _ _ (by rfl) (by rfl) (by rfl) H5.out) (by rfl) ?_)
  go_ret
  exact⟨rfl,HK.out.b⟩
 cases dn
 case true=>
  go_enter Tryz.func68,Tryz.ntmps68
  go_wp2_with (first|refine wpList_exe (kse_e HK 0 _ (by rfl) (by rfl) (by rfl)) (by rfl) ?_|refine wpList_exe (kse_r HK 0 _ (by rfl) (by rfl) (by rfl)) (by rfl) ?_|refine wpList_exe (kse_d HK 0 _ (by rfl) (by rfl) (by rfl)) (by rfl) ?_|refine wpList_exe (kse_l HK 0 _ (by rfl) (by rfl) (by rfl)) (by rfl) ?_|refine wpList_exe (kse_p HK 0 _ (by rfl) (by rfl) (by rfl)) (by rfl) ?_|refine wpList_exe (exec_iLe (m:=ep) (n:=0) _ _ (by rfl) (by rfl) (by rfl) H1.out) (by rfl) ?_|refine wpList_exe (exec_iL (m:=rq) (n:=0) _ _ (by rfl) (by rfl) (by rfl) H2.out) (by rfl) ?_|refine wpList_exe (exec_iG (m:=rq) (n:=0) _ _ (by rfl) (by rfl) (by rfl) H4.out) (by rfl) ?_|refine wpList_exe (exec_rz (by rfl)) (by rfl) ?_|refine wpList_exe (exec_rpe (p:=p) (q:=Sto.rz) _ _ (by rfl) (by rfl) (by rfl) H5.out) (by rfl) ?_)
  refine(HC.out _).mono ?_;rintro e w1 ⟨rfl,b1⟩
  replace HK:=hkC HK b1;clear b1
  have k3:=HK.out.cell 0 rfl 3 (v:=.bool true) rfl
  go_wp2_with fail
  go_ret
  exact⟨rfl,HK.out.b⟩
 cases l
 case false=>
  go_enter Tryz.func68,Tryz.ntmps68
  go_wp2_with (first|refine wpList_exe (kse_e HK 0 _ (by rfl) (by rfl) (by rfl)) (by rfl) ?_|refine wpList_exe (kse_r HK 0 _ (by rfl) (by rfl) (by rfl)) (by rfl) ?_|refine wpList_exe (kse_d HK 0 _ (by rfl) (by rfl) (by rfl)) (by rfl) ?_|refine wpList_exe (kse_l HK 0 _ (by rfl) (by rfl) (by rfl)) (by rfl) ?_|refine wpList_exe (kse_p HK 0 _ (by rfl) (by rfl) (by rfl)) (by rfl) ?_|refine wpList_exe (exec_iLe (m:=ep) (n:=0) _ _ (by rfl) (by rfl) (by rfl) H1.out) (by rfl) ?_|refine wpList_exe (exec_iL (m:=rq) (n:=0) _ _ (by rfl) (by rfl) (by rfl) H2.out) (by rfl) ?_|refine wpList_exe (exec_iG (m:=rq) (n:=0) _ _ (by rfl) (by rfl) (by rfl) H4.out) (by rfl) ?_|refine wpList_exe (exec_rz (by rfl)) (by rfl) ?_|refine wpList_exe (exec_rpe (p:=p) (q:=Sto.rz) _ _ (by rfl) (by rfl) (by rfl) H5.out) (by rfl) ?_)
  refine(HC.out _).mono ?_;rintro e w1 ⟨rfl,b1⟩
  replace HK:=hkC HK b1;clear b1
  go_wp2_with (first|refine wpList_exe (kse_d HK 0 _ (by rfl) (by rfl) (by rfl)) (by rfl) ?_|refine wpList_exe (kse_l HK 0 _ (by rfl) (by rfl) (by rfl)) (by rfl) ?_)
  go_ret
  exact⟨rfl,HK.out.b⟩
 cases b4
 case false=>
  go_enter Tryz.func68,Tryz.ntmps68
  go_wp2_with (first|refine wpList_exe (kse_e HK 0 _ (by rfl) (by rfl) (by rfl)) (by rfl) ?_|refine wpList_exe (kse_r HK 0 _ (by rfl) (by rfl) (by rfl)) (by rfl) ?_|refine wpList_exe (kse_d HK 0 _ (by rfl) (by rfl) (by rfl)) (by rfl) ?_|refine wpList_exe (kse_l HK 0 _ (by rfl) (by rfl) (by rfl)) (by rfl) ?_|refine wpList_exe (kse_p HK 0 _ (by rfl) (by rfl) (by rfl)) (by rfl) ?_|refine wpList_exe (exec_iLe (m:=ep) (n:=0) _ _ (by rfl) (by rfl) (by rfl) H1.out) (by rfl) ?_|refine wpList_exe (exec_iL (m:=rq) (n:=0) _ _ (by rfl) (by rfl) (by rfl) H2.out) (by rfl) ?_|refine wpList_exe (exec_iG (m:=rq) (n:=0) _ _ (by rfl) (by rfl) (by rfl) H4.out) (by rfl) ?_|refine wpList_exe (exec_rz (by rfl)) (by rfl) ?_|refine wpList_exe (exec_rpe (p:=p) (q:=Sto.rz) _ _ (by rfl) (by rfl) (by rfl) H5.out) (by rfl) ?_)
  refine(HC.out _).mono ?_;rintro e w1 ⟨rfl,b1⟩
  replace HK:=hkC HK b1;clear b1
  go_wp2_with (first|refine wpList_exe (kse_d HK 0 _ (by rfl) (by rfl) (by rfl)) (by rfl) ?_|refine wpList_exe (kse_l HK 0 _ (by rfl) (by rfl) (by rfl)) (by rfl) ?_|refine wpList_exe (kse_r HK 0 _ (by rfl) (by rfl) (by rfl)) (by rfl) ?_|refine wpList_exe (exec_iG (m:=rq) (n:=0) _ _ (by rfl) (by rfl) (by rfl) H4.out) (by rfl) ?_)
  go_ret
  exact⟨rfl,HK.out.b⟩
 go_enter Tryz.func68,Tryz.ntmps68
 go_wp2_with (first|refine wpList_exe (kse_e HK 0 _ (by rfl) (by rfl) (by rfl)) (by rfl) ?_|refine wpList_exe (kse_r HK 0 _ (by rfl) (by rfl) (by rfl)) (by rfl) ?_|refine wpList_exe (kse_d HK 0 _ (by rfl) (by rfl) (by rfl)) (by rfl) ?_|refine wpList_exe (kse_l HK 0 _ (by rfl) (by rfl) (by rfl)) (by rfl) ?_|refine wpList_exe (kse_p HK 0 _ (by rfl) (by rfl) (by rfl)) (by rfl) ?_|refine wpList_exe (exec_iLe (m:=ep) (n:=0) _ _ (by rfl) (by rfl) (by rfl) H1.out) (by rfl) ?_|refine wpList_exe (exec_iL (m:=rq) (n:=0) _ _ (by rfl) (by rfl) (by rfl) H2.out) (by rfl) ?_|refine wpList_exe (exec_iG (m:=rq) (n:=0) _ _ (by rfl) (by rfl) (by rfl) H4.out) (by rfl) ?_|refine wpList_exe (exec_rz (by rfl)) (by rfl) ?_|refine wpList_exe (exec_rpe (p:=p) (q:=Sto.rz) _ _ (by rfl) (by rfl) (by rfl) H5.out) (by rfl) ?_)
 refine(HC.out _).mono ?_;rintro e w1 ⟨rfl,b1⟩
 replace HK:=hkC HK b1;clear b1
 go_wp2_with (first|refine wpList_exe (kse_e HK 0 _ (by rfl) (by rfl) (by rfl)) (by rfl) ?_|refine wpList_exe (kse_r HK 0 _ (by rfl) (by rfl) (by rfl)) (by rfl) ?_|refine wpList_exe (kse_d HK 0 _ (by rfl) (by rfl) (by rfl)) (by rfl) ?_|refine wpList_exe (kse_l HK 0 _ (by rfl) (by rfl) (by rfl)) (by rfl) ?_|refine wpList_exe (kse_p HK 0 _ (by rfl) (by rfl) (by rfl)) (by rfl) ?_|refine wpList_exe (exec_iLe (m:=ep) (n:=0) _ _ (by rfl) (by rfl) (by rfl) H1.out) (by rfl) ?_|refine wpList_exe (exec_iL (m:=rq) (n:=0) _ _ (by rfl) (by rfl) (by rfl) H2.out) (by rfl) ?_|refine wpList_exe (exec_iG (m:=rq) (n:=0) _ _ (by rfl) (by rfl) (by rfl) H4.out) (by rfl) ?_|refine wpList_exe (exec_rz (by rfl)) (by rfl) ?_|refine wpList_exe (exec_rpe (p:=p) (q:=Sto.rz) _ _ (by rfl) (by rfl) (by rfl) H5.out) (by rfl) ?_)
 go_ret
 exact⟨rfl,HK.out.b⟩
theorem slive_any(t:Ses.T)(w:World):Calls Tryz.prog 69 #[.agg (tbA t)] w (IsInt (Ses.live t (-1)) w):=by
 rw[← Ses.cnt5]
 have HK:=kn1 w 31 (tbA t)
 unfold IsInt
 go_enter Tryz.func69,Tryz.ntmps69
 go_wp2_with (first|refine wpList_exe (ktb HK 0 _ (by rfl) (by rfl) (by rfl)) (by rfl) ?_)
 go_loopw [3,7] (fun v3 v7 wr=>∃k:Nat,k≤5∧v3=.int .i64 (Ses.cnt t (-1) k)∧v7=.int .i64 k∧Hid (Kn w.heap.size w wr [(w.heap.size,31,tbA t)] [])) (fun _ v7 _=>5-(intOf v7).toNat)
 case atStart=>exact⟨0,Nat.zero_le _,rfl,rfl,HK⟩
 case round=>
  clear HK
  obtain⟨k,hk,rfl,rfl,HK⟩:=hrel
  have hk1:(0:Int)≤(k:Int):=by omega
  by_cases hlt:k<5
  ·have hk2:(k:Int)<(5:Int):=by omega
   have hk3:k<9223372036854775807:=by omega
   have hc:0≤(k:Int)∧(k:Int)<5:=⟨hk1,hk2⟩
   have hcn:=Ses.cnt_le t (-1) k
   have hW:IntKind.i64.wrap (Ses.cnt t (-1) k+1)=Ses.cnt t (-1) k+1:=by rw[IntKind.wrap_i64];omega
   have hS:Ses.cnt t (-1) (k+1)=Ses.cnt t (-1) k+Ses.b2i (t.get (k:Int)).live:=by
    show _+Ses.b2i (_&&!decide ((k:Int) = -1))=_
    rw[decide_eq_false (by omega)]
    simp
   have HW:=zH hW
   have HS:=zH hS
   clear hW hS hcn
   generalize Ses.cnt t (-1) k=z at *
   generalize hs:t.get (k:Int)=s at *
   have HI:Hid (t.get (k:Int)=s):=zH hs
   clear hs
   obtain⟨l,ep,rq,dn,p⟩:=s
   cases l
   ·go_wp2_with (first|refine wpList_exe ((exec_ixs (t:=t) hc _ _ (by rfl) (by rfl) (by rfl)).trans (by rw[HI.out])) (by rfl) ?_|(refine wpList_ase HK rfl rfl ?_;intro _ g1 HK';simp only[lcA,lnA] at HK';replace HK:=HK';clear HK')|(refine wpList_sse (u:=⟨false,ep,rq,dn,p⟩) HK 1 rfl _ _ rfl rfl rfl rfl ?_;intro _ HK';simp only[List.set] at HK';replace HK:=HK';clear HK')|refine wpList_exe (kse_l HK 1 _ (by rfl) (by rfl) (by rfl)) (by rfl) ?_|refine wpList_exe (exec_incz (m:=z) _ (by rfl) (by rfl) HW.out) (by rfl) ?_|refine wpList_exe (exec_add1 (j:=k) _ (by rfl) (by rfl) hk3) (by rfl) ?_)
    exact⟨⟨k+1,hlt,by rw[HS.out];simp[Ses.b2i],rfl,zH (HK.out.takeL 1)⟩,by simp[intOf];omega⟩
   ·go_wp2_with (first|refine wpList_exe ((exec_ixs (t:=t) hc _ _ (by rfl) (by rfl) (by rfl)).trans (by rw[HI.out])) (by rfl) ?_|(refine wpList_ase HK rfl rfl ?_;intro _ g1 HK';simp only[lcA,lnA] at HK';replace HK:=HK';clear HK')|(refine wpList_sse (u:=⟨true,ep,rq,dn,p⟩) HK 1 rfl _ _ rfl rfl rfl rfl ?_;intro _ HK';simp only[List.set] at HK';replace HK:=HK';clear HK')|refine wpList_exe (kse_l HK 1 _ (by rfl) (by rfl) (by rfl)) (by rfl) ?_|refine wpList_exe (exec_incz (m:=z) _ (by rfl) (by rfl) HW.out) (by rfl) ?_|refine wpList_exe (exec_add1 (j:=k) _ (by rfl) (by rfl) hk3) (by rfl) ?_)
    exact⟨⟨k+1,hlt,by rw[HS.out];simp[Ses.b2i],rfl,zH (HK.out.takeL 1)⟩,by simp[intOf];omega⟩
  ·obtain rfl:k=5:=by omega
   go_wp2_with fail
   go_ret
   exact⟨rfl,HK.out.b⟩
theorem slast_any(s:Ses.S)(w:World):Calls Tryz.prog 50 #[.agg (seA s)] w (IsInt (if s.dn=true then 2 else 3) w):=by
 obtain⟨l,ep,rq,dn,p⟩:=s
 have HK:=kn1 w 30 (seA ⟨l,ep,rq,dn,p⟩)
 unfold IsInt
 cases dn
 ·go_enter Tryz.func50,Tryz.ntmps50
  go_wp2_with (first|refine wpList_exe (kse_d HK 0 _ (by rfl) (by rfl) (by rfl)) (by rfl) ?_)
  go_ret
  exact⟨rfl,HK.out.b⟩
 ·go_enter Tryz.func50,Tryz.ntmps50
  go_wp2_with (first|refine wpList_exe (kse_d HK 0 _ (by rfl) (by rfl) (by rfl)) (by rfl) ?_)
  go_ret
  exact⟨rfl,HK.out.b⟩
theorem sdone_any(s:Ses.S)(x:Sto.Rp)(w:World):Calls Tryz.prog 128 #[.agg (seA s),.agg (rpA x)] w (IsS { s with dn:=true,p:=x } w):=by
 have HK:=kn2 w 30 (seA s) 28 (rpA x)
 unfold IsS
 go_enter Tryz.func128,Tryz.ntmps128
 go_wp2_with (first|(refine wpList_ase HK rfl rfl ?_;intro _ g1 HK';simp only[lcA,lnA] at HK';replace HK:=HK';clear HK')|(refine wpList_ssd (d:=true) HK 0 rfl _ _ rfl rfl rfl rfl ?_;intro _ HK';simp only[List.set] at HK';replace HK:=HK';clear HK')|refine wpList_exe (krp HK 1 _ (by rfl) (by rfl) (by rfl)) (by rfl) ?_|(refine wpList_ssp (p:=x) HK 0 rfl _ _ rfl rfl rfl rfl ?_;intro _ HK';simp only[List.set] at HK';replace HK:=HK';clear HK')|refine wpList_exe (kse HK 0 _ (by rfl) (by rfl) (by rfl)) (by rfl) ?_|(refine wpList_sse (u:={ s with dn:=true,p:=x }) HK 2 rfl _ _ rfl rfl rfl rfl ?_;intro _ HK';simp only[List.set] at HK';replace HK:=HK';clear HK'))
 exact ret_se Tryz.results128 rfl rfl (HK.out.blk 2 rfl) ⟨rfl,HK.out.b⟩
end
section
open Go.RowKit
theorem sright_any(t:Ses.T)(w:World)(hf:Ses.Fit t):Calls Tryz.prog 33 #[.agg (tbA t)] w (IsB (decide (Ses.Right t)) w):=by
 have HYes:=zH (Ses.right_all t)
 have HNo:=zH (fun(c:Int) hc=>Ses.right_no (t:=t) (c:=c) hc)
 have HL:=zH (fun W=>slive_any t W)
 have HF:=zH hf
 have HK:=kn1 w 31 (tbA t)
 unfold IsB
 unfold IsInt at HL
 clear hf
 generalize decide (Ses.Right t)=r at *
 go_enter Tryz.func33,Tryz.ntmps33
 go_wp2_with (first|refine wpList_exe (ktb HK 0 _ (by rfl) (by rfl) (by rfl)) (by rfl) ?_)
 go_loopw [6] (fun v6 wr=>∃k:Nat,k≤5∧v6=.int .i64 k∧Hid (∀c:Int,0≤c∧c<(k:Int)→Ses.one (t.get c)=true)∧Hid (Kn w.heap.size w wr [(w.heap.size,31,tbA t)] [])) (fun v6 _=>5-(intOf v6).toNat)
 case atStart=>exact⟨0,Nat.zero_le _,rfl,zH (fun c hc=>by omega),HK⟩
 case round=>
  clear HK
  obtain⟨k,hk,rfl,HGo,HK⟩:=hrel
  have hk1:(0:Int)≤(k:Int):=by omega
  by_cases hlt:k<5
  ·have hk2:(k:Int)<(5:Int):=by omega
   have hk3:k<9223372036854775807:=by omega
   have hc:0≤(k:Int)∧(k:Int)<5:=⟨hk1,hk2⟩
   have HN:=zH (HNo.out (k:Int) hc)
   have HC:=zH (fun W=>ssound_any (t.get (k:Int)) W (HF.out _ hc))
   have HOne:=zH (Ses.one_snd (t.get (k:Int)))
   have HGk:Hid (Ses.one (t.get (k:Int))=true→∀c:Int,0≤c∧c<((k+1:Nat):Int)→Ses.one (t.get c)=true):=zH fun h c hc=>by
    by_cases e:c=(k:Int)
    ·rw[e];exact h
    ·exact HGo.out c (by omega)
   generalize hs:t.get (k:Int)=s at *
   have HI:Hid (t.get (k:Int)=s):=zH hs
   clear hs
   unfold IsB at HC
   generalize h0:decide (s=Ses.z)=b0 at *
   have H0:Hid ((!decide (s=Ses.z))=!b0):=zH (by rw[h0])
   clear h0
   generalize Ses.snd s=b1 at *
   cases b0
   ·cases b1
    ·have HR:=zH (HN.out (by rw[HOne.out];rfl))
     clear HGk HOne HN
     go_wp2_with (first|refine wpList_exe ((exec_ixs (t:=t) hc _ _ (by rfl) (by rfl) (by rfl)).trans (by rw[HI.out])) (by rfl) ?_|(refine wpList_ase HK rfl rfl ?_;intro _ g1 HK';simp only[lcA,lnA] at HK';replace HK:=HK';clear HK')|(refine wpList_sse (u:=s) HK 1 rfl _ _ rfl rfl rfl rfl ?_;intro _ HK';simp only[List.set] at HK';replace HK:=HK';clear HK')|refine wpList_exe (kse HK 1 _ (by rfl) (by rfl) (by rfl)) (by rfl) ?_|refine wpList_exe (exec_bz (by rfl)) (by rfl) ?_|refine wpList_exe (exec_seN (s:=s) (u:=Ses.z) _ _ (by rfl) (by rfl) (by rfl) H0.out) (by rfl) ?_)
     refine(HC.out _).mono ?_;rintro e w1 ⟨rfl,b1⟩
     replace HK:=hkC HK b1;clear b1
     go_wp2_with fail
     go_ret
     exact⟨by rw[HR.out]<;>rfl,HK.out.b⟩
    ·replace HGk:=zH (HGk.out (by rw[HOne.out];rfl))
     clear HOne HN
     go_wp2_with (first|refine wpList_exe ((exec_ixs (t:=t) hc _ _ (by rfl) (by rfl) (by rfl)).trans (by rw[HI.out])) (by rfl) ?_|(refine wpList_ase HK rfl rfl ?_;intro _ g1 HK';simp only[lcA,lnA] at HK';replace HK:=HK';clear HK')|(refine wpList_sse (u:=s) HK 1 rfl _ _ rfl rfl rfl rfl ?_;intro _ HK';simp only[List.set] at HK';replace HK:=HK';clear HK')|refine wpList_exe (kse HK 1 _ (by rfl) (by rfl) (by rfl)) (by rfl) ?_|refine wpList_exe (exec_bz (by rfl)) (by rfl) ?_|refine wpList_exe (exec_seN (s:=s) (u:=Ses.z) _ _ (by rfl) (by rfl) (by rfl) H0.out) (by rfl) ?_)
     refine(HC.out _).mono ?_;rintro e w1 ⟨rfl,b1⟩
     replace HK:=hkC HK b1;clear b1
     go_wp2_with (first|refine wpList_exe (exec_add1 (j:=k) _ (by rfl) (by rfl) hk3) (by rfl) ?_)
     exact⟨⟨k+1,hlt,rfl,HGk,zH (HK.out.takeL 1)⟩,by simp[intOf];omega⟩
   ·replace HGk:=zH (HGk.out (by rw[HOne.out];rfl))
    clear HOne HN
    go_wp2_with (first|refine wpList_exe ((exec_ixs (t:=t) hc _ _ (by rfl) (by rfl) (by rfl)).trans (by rw[HI.out])) (by rfl) ?_|(refine wpList_ase HK rfl rfl ?_;intro _ g1 HK';simp only[lcA,lnA] at HK';replace HK:=HK';clear HK')|(refine wpList_sse (u:=s) HK 1 rfl _ _ rfl rfl rfl rfl ?_;intro _ HK';simp only[List.set] at HK';replace HK:=HK';clear HK')|refine wpList_exe (kse HK 1 _ (by rfl) (by rfl) (by rfl)) (by rfl) ?_|refine wpList_exe (exec_bz (by rfl)) (by rfl) ?_|refine wpList_exe (exec_seN (s:=s) (u:=Ses.z) _ _ (by rfl) (by rfl) (by rfl) H0.out) (by rfl) ?_|refine wpList_exe (exec_add1 (j:=k) _ (by rfl) (by rfl) hk3) (by rfl) ?_)
    exact⟨⟨k+1,hlt,rfl,HGk,zH (HK.out.takeL 1)⟩,by simp[intOf];omega⟩
  ·obtain rfl:k=5:=by omega
   have HR:=zH (HYes.out HGo.out)
   go_wp2_with (first|refine wpList_exe (ktb HK 0 _ (by rfl) (by rfl) (by rfl)) (by rfl) ?_)
   refine(HL.out _).mono ?_;rintro e w1 ⟨rfl,b1⟩
   replace HK:=hkC HK b1;clear b1
   generalize Ses.live t (-1)=z at *
   go_wp2_with (first|refine wpList_exe (exec_iLe (m:=z) (n:=4) _ _ (by rfl) (by rfl) (by rfl) HR.out.symm) (by rfl) ?_)
   go_ret
   exact⟨rfl,HK.out.b⟩
end
section
namespace Ses
def lookB(b1 b2 b3 b4 b5 l b6 d:Bool):Int:=if (b1&&b2)=true then 1 else if (b3 || b4)=true then 5 else if b5=true then (if d=true then 2 else 3) else if l=false then 4 else if (b6&&d)=true then 1 else 5
theorem look_b(s:S)(r:Rf):lookS s r=lookB (decide (r.r=0)) (decide (s.ep<r.e)) (!decide (r.e=s.ep)) (decide (r.r<s.rq)) (decide (r.r=s.rq)) s.live (decide (r.r-1=s.rq)) s.dn:=by
 unfold lookS lookB
 congr 1
 ·simp
 ·congr 1
  ·simp
  ·simp
theorem ok_wrap{r:Rf}(h1:decide (Lck.ok r)=true)(h:r.r≤9223372036854775807):IntKind.i64.wrap (r.r-1)=r.r-1:=by
 obtain⟨_,_,_,h0⟩:=of_decide_eq_true h1
 rw[IntKind.wrap_i64];omega
def lookW(t:T)(r:Rf):Int:=if Lck.ok r∧Right t then lookB (decide (r.r=0)) (decide ((t.get r.c).ep<r.e)) (!decide (r.e=(t.get r.c).ep)) (decide (r.r<(t.get r.c).rq)) (decide (r.r=(t.get r.c).rq)) (t.get r.c).live (decide (IntKind.i64.wrap (r.r-1)=(t.get r.c).rq)) (t.get r.c).dn else 5
theorem lookW_ok{t:T}{r:Rf}(h1:decide (Lck.ok r)=true)(h2:decide (Right t)=true):lookW t r=lookB (decide (r.r=0)) (decide ((t.get r.c).ep<r.e)) (!decide (r.e=(t.get r.c).ep)) (decide (r.r<(t.get r.c).rq)) (decide (r.r=(t.get r.c).rq)) (t.get r.c).live (decide (IntKind.i64.wrap (r.r-1)=(t.get r.c).rq)) (t.get r.c).dn:=if_pos ⟨of_decide_eq_true h1,of_decide_eq_true h2⟩
theorem lookW_no1{t:T}{r:Rf}(h1:decide (Lck.ok r)=false):lookW t r=5:=if_neg fun h=>of_decide_eq_false h1 h.1
theorem lookW_no2{t:T}{r:Rf}(h2:decide (Right t)=false):lookW t r=5:=if_neg fun h=>of_decide_eq_false h2 h.2
theorem lookW_is{t:T}{r:Rf}(h:r.r≤9223372036854775807):lookW t r=look t r:=by
 unfold lookW look
 by_cases g:Lck.ok r∧Right t
 ·rw[if_pos g,if_pos g,look_b,ok_wrap (decide_eq_true g.1) h]
 ·rw[if_neg g,if_neg g]
theorem lookB_3(b1 b2 b3 b4 b5 l b6 b7 d:Bool):decide (lookB b1 b2 b3 b4 b5 l b6 d=3)=decide (lookB b1 b2 b3 b4 b5 l b7 d=3):=by
 cases b1<;>cases b2<;>cases b3<;>cases b4<;>cases b5<;>cases l<;>cases b6<;>cases b7<;>cases d<;>rfl
theorem lookW_3(t:T)(r:Rf):decide (lookW t r=3)=decide (look t r=3):=by
 unfold lookW look
 by_cases g:Lck.ok r∧Right t
 ·rw[if_pos g,if_pos g,look_b]
  exact lookB_3 ..
 ·rw[if_neg g,if_neg g]
end Ses
end
section
open Go.RowKit
theorem slook_all(t:Ses.T)(r:Rf)(w:World)(hf:Ses.Fit t):Calls Tryz.prog 23 #[.agg (tbA t),.agg #[.int .i64 r.c,.int .i64 r.e,.int .i64 r.r]] w (IsInt (Ses.lookW t r) w):=by
 have HM:=zH (fun W=>cmr_any r W)
 have HT:=zH (fun W=>sright_any t W hf)
 have HK:=kn2 w 31 (tbA t) 35 #[.int .i64 r.c,.int .i64 r.e,.int .i64 r.r]
 have HO1:=zH (fun h=>Ses.lookW_no1 (t:=t) (r:=r) h)
 have HO2:=zH (fun h=>Ses.lookW_no2 (t:=t) (r:=r) h)
 have HO3:=zH (fun h1 h2=>Ses.lookW_ok (t:=t) (r:=r) h1 h2)
 have HO5:Hid (decide (Lck.ok r)=true→0≤r.c∧r.c<5):=zH (fun h=>Ses.ok_c (of_decide_eq_true h))
 unfold IsInt
 unfold IsB at HM HT
 clear hf
 generalize Ses.lookW t r=x at *
 generalize decide (Ses.Right t)=y at *
 generalize decide (Lck.ok r)=z at *
 go_enter Tryz.func23,Tryz.ntmps23
 go_wp2_with (first|refine wpList_exe (kexec_lr HK 1 _ (by rfl) (by rfl) (by rfl)) (by rfl) ?_)
 refine(HM.out _).mono ?_;rintro e w1 ⟨rfl,b1⟩
 replace HK:=hkC HK b1;clear b1
 cases z
 case false=>
  have HX:=zH (HO1.out (by simp))
  go_wp2_with fail
  go_ret
  exact⟨by rw[HX.out]<;>rfl,HK.out.b⟩
 go_wp2_with (first|refine wpList_exe (ktb HK 0 _ (by rfl) (by rfl) (by rfl)) (by rfl) ?_)
 refine(HT.out _).mono ?_;rintro e w1 ⟨rfl,b1⟩
 replace HK:=hkC HK b1;clear b1
 cases y
 case false=>
  have HX:=zH (HO2.out (by simp))
  go_wp2_with fail
  go_ret
  exact⟨by rw[HX.out]<;>rfl,HK.out.b⟩
 have HX:=zH (HO3.out (by simp) (by simp))
 have hc:=HO5.out (by simp)
 clear HO1 HO2 HO3 HO5
 go_upto_region 4 with (first|refine wpList_exe (krf_c (x:=r) HK 1 _ (by rfl) (by rfl) (by rfl)) (by rfl) ?_|refine wpList_exe (exec_ixt hc _ _ (by rfl) (by rfl) (by rfl)) (by rfl) ?_|refine wpList_exe (kts HK 0 hc _ (by rfl) (by rfl) (by rfl)) (by rfl) ?_|(refine wpList_ase HK rfl rfl ?_;intro _ g1 HK';simp only[lcA,lnA] at HK';replace HK:=HK';clear HK')|(refine wpList_sse (u:=t.get r.c) HK 2 rfl _ _ rfl rfl rfl rfl ?_;intro _ HK';simp only[List.set] at HK';replace HK:=HK';clear HK'))
 generalize t.get r.c=s at *
 obtain⟨rc,re,rr⟩:=r
 obtain⟨l,ep,rq,d,p⟩:=s
 dsimp only at *
 have HLa:=zH (fun W=>slast_any ⟨l,ep,rq,d,p⟩ W)
 have k0:=HK.out.cell 2 rfl 0 (v:=.bool l) rfl
 have k1:=HK.out.cell 2 rfl 1 (v:=.int .i64 ep) rfl
 have k2:=HK.out.cell 2 rfl 2 (v:=.int .i64 rq) rfl
 have k3:=HK.out.cell 2 rfl 3 (v:=.bool d) rfl
 have q0:=HK.out.cell 1 rfl 0 (v:=.int .i64 rc) rfl
 have q1:=HK.out.cell 1 rfl 1 (v:=.int .i64 re) rfl
 have q2:=HK.out.cell 1 rfl 2 (v:=.int .i64 rr) rfl
 generalize h1:decide (rr=0)=b1 at *
 have H1:=zH h1
 generalize h2:decide (ep<re)=b2 at *
 have H2:=zH h2
 generalize h3:(!decide (re=ep))=b3 at *
 have H3:=zH h3
 generalize h4:decide (rr<rq)=b4 at *
 have H4:=zH h4
 generalize h5:decide (rr=rq)=b5 at *
 have H5:=zH h5
 generalize hw:IntKind.i64.wrap (rr-1)=rv at *
 have HW:=zH hw
 clear hw
 generalize h6:decide (rv=rq)=b6 at *
 have H6:=zH h6
 clear h1 h2 h3 h4 h5 h6 hc
 unfold IsInt at HLa
 cases b1
 case false=>
  cases b3
  case true=>
   go_wp2_with (first|refine wpList_exe (exec_iE (m:=rr) (n:=0) _ _ (by rfl) (by rfl) (by rfl) H1.out) (by rfl) ?_|refine wpList_exe (exec_iG (m:=re) (n:=ep) _ _ (by rfl) (by rfl) (by rfl) H2.out) (by rfl) ?_|refine wpList_exe (exec_iN (m:=re) (n:=ep) _ _ (by rfl) (by rfl) (by rfl) H3.out) (by rfl) ?_)
   go_ret
   exact⟨by rw[HX.out]<;>rfl,HK.out.b⟩
  cases b4
  case true=>
   go_wp2_with (first|refine wpList_exe (exec_iE (m:=rr) (n:=0) _ _ (by rfl) (by rfl) (by rfl) H1.out) (by rfl) ?_|refine wpList_exe (exec_iG (m:=re) (n:=ep) _ _ (by rfl) (by rfl) (by rfl) H2.out) (by rfl) ?_|refine wpList_exe (exec_iN (m:=re) (n:=ep) _ _ (by rfl) (by rfl) (by rfl) H3.out) (by rfl) ?_|refine wpList_exe (exec_iL (m:=rr) (n:=rq) _ _ (by rfl) (by rfl) (by rfl) H4.out) (by rfl) ?_)
   go_ret
   exact⟨by rw[HX.out]<;>rfl,HK.out.b⟩
  cases b5
  case true=>
   cases d
   ·go_wp2_with (first|refine wpList_exe (exec_iE (m:=rr) (n:=0) _ _ (by rfl) (by rfl) (by rfl) H1.out) (by rfl) ?_|refine wpList_exe (exec_iG (m:=re) (n:=ep) _ _ (by rfl) (by rfl) (by rfl) H2.out) (by rfl) ?_|refine wpList_exe (exec_iN (m:=re) (n:=ep) _ _ (by rfl) (by rfl) (by rfl) H3.out) (by rfl) ?_|refine wpList_exe (exec_iL (m:=rr) (n:=rq) _ _ (by rfl) (by rfl) (by rfl) H4.out) (by rfl) ?_|refine wpList_exe (exec_iE (m:=rr) (n:=rq) _ _ (by rfl) (by rfl) (by rfl) H5.out) (by rfl) ?_|refine wpList_exe (kse HK 2 _ (by rfl) (by rfl) (by rfl)) (by rfl) ?_)
    refine(HLa.out _).mono ?_;rintro e w1 ⟨rfl,b1⟩
    replace HK:=hkC HK b1;clear b1 k0 k1 k2 k3 q0 q1 q2
    go_wp2_with fail
    go_ret
    exact⟨by rw[HX.out]<;>rfl,HK.out.b⟩
   ·go_wp2_with (first|refine wpList_exe (exec_iE (m:=rr) (n:=0) _ _ (by rfl) (by rfl) (by rfl) H1.out) (by rfl) ?_|refine wpList_exe (exec_iG (m:=re) (n:=ep) _ _ (by rfl) (by rfl) (by rfl) H2.out) (by rfl) ?_|refine wpList_exe (exec_iN (m:=re) (n:=ep) _ _ (by rfl) (by rfl) (by rfl) H3.out) (by rfl) ?_|refine wpList_exe (exec_iL (m:=rr) (n:=rq) _ _ (by rfl) (by rfl) (by rfl) H4.out) (by rfl) ?_|refine wpList_exe (exec_iE (m:=rr) (n:=rq) _ _ (by rfl) (by rfl) (by rfl) H5.out) (by rfl) ?_|refine wpList_exe (kse HK 2 _ (by rfl) (by rfl) (by rfl)) (by rfl) ?_)
    refine(HLa.out _).mono ?_;rintro e w1 ⟨rfl,b1⟩
    replace HK:=hkC HK b1;clear b1 k0 k1 k2 k3 q0 q1 q2
    go_wp2_with fail
    go_ret
    exact⟨by rw[HX.out]<;>rfl,HK.out.b⟩
  cases l
  case false=>
   go_wp2_with (first|refine wpList_exe (exec_iE (m:=rr) (n:=0) _ _ (by rfl) (by rfl) (by rfl) H1.out) (by rfl) ?_|refine wpList_exe (exec_iG (m:=re) (n:=ep) _ _ (by rfl) (by rfl) (by rfl) H2.out) (by rfl) ?_|refine wpList_exe (exec_iN (m:=re) (n:=ep) _ _ (by rfl) (by rfl) (by rfl) H3.out) (by rfl) ?_|refine wpList_exe (exec_iL (m:=rr) (n:=rq) _ _ (by rfl) (by rfl) (by rfl) H4.out) (by rfl) ?_|refine wpList_exe (exec_iE (m:=rr) (n:=rq) _ _ (by rfl) (by rfl) (by rfl) H5.out) (by rfl) ?_)
   go_ret
   exact⟨by rw[HX.out]<;>rfl,HK.out.b⟩
  cases b6
  case false=>
   go_wp2_with (first|refine wpList_exe (exec_iE (m:=rr) (n:=0) _ _ (by rfl) (by rfl) (by rfl) H1.out) (by rfl) ?_|refine wpList_exe (exec_iG (m:=re) (n:=ep) _ _ (by rfl) (by rfl) (by rfl) H2.out) (by rfl) ?_|refine wpList_exe (exec_iN (m:=re) (n:=ep) _ _ (by rfl) (by rfl) (by rfl) H3.out) (by rfl) ?_|refine wpList_exe (exec_iL (m:=rr) (n:=rq) _ _ (by rfl) (by rfl) (by rfl) H4.out) (by rfl) ?_|refine wpList_exe (exec_iE (m:=rr) (n:=rq) _ _ (by rfl) (by rfl) (by rfl) H5.out) (by rfl) ?_|refine wpList_exe (exec_iE (m:=rv) (n:=rq) _ _ (by rfl) (by rfl) (by rfl) H6.out) (by rfl) ?_|refine wpList_exe (exec_dec (m:=rr) (n:=rv) _ (by rfl) (by rfl) HW.out) (by rfl) ?_)
   go_ret
   exact⟨by rw[HX.out]<;>rfl,HK.out.b⟩
  cases d
  case true=>
   go_wp2_with (first|refine wpList_exe (exec_iE (m:=rr) (n:=0) _ _ (by rfl) (by rfl) (by rfl) H1.out) (by rfl) ?_|refine wpList_exe (exec_iG (m:=re) (n:=ep) _ _ (by rfl) (by rfl) (by rfl) H2.out) (by rfl) ?_|refine wpList_exe (exec_iN (m:=re) (n:=ep) _ _ (by rfl) (by rfl) (by rfl) H3.out) (by rfl) ?_|refine wpList_exe (exec_iL (m:=rr) (n:=rq) _ _ (by rfl) (by rfl) (by rfl) H4.out) (by rfl) ?_|refine wpList_exe (exec_iE (m:=rr) (n:=rq) _ _ (by rfl) (by rfl) (by rfl) H5.out) (by rfl) ?_|refine wpList_exe (exec_iE (m:=rv) (n:=rq) _ _ (by rfl) (by rfl) (by rfl) H6.out) (by rfl) ?_|refine wpList_exe (exec_dec (m:=rr) (n:=rv) _ (by rfl) (by rfl) HW.out) (by rfl) ?_)
   go_ret
   exact⟨by rw[HX.out]<;>rfl,HK.out.b⟩
  go_wp2_with (first|refine wpList_exe (exec_iE (m:=rr) (n:=0) _ _ (by rfl) (by rfl) (by rfl) H1.out) (by rfl) ?_|refine wpList_exe (exec_iG (m:=re) (n:=ep) _ _ (by rfl) (by rfl) (by rfl) H2.out) (by rfl) ?_|refine wpList_exe (exec_iN (m:=re) (n:=ep) _ _ (by rfl) (by rfl) (by rfl) H3.out) (by rfl) ?_|refine wpList_exe (exec_iL (m:=rr) (n:=rq) _ _ (by rfl) (by rfl) (by rfl) H4.out) (by rfl) ?_|refine wpList_exe (exec_iE (m:=rr) (n:=rq) _ _ (by rfl) (by rfl) (by rfl) H5.out) (by rfl) ?_|refine wpList_exe (exec_iE (m:=rv) (n:=rq) _ _ (by rfl) (by rfl) (by rfl) H6.out) (by rfl) ?_|refine wpList_exe (exec_dec (m:=rr) (n:=rv) _ (by rfl) (by rfl) HW.out) (by rfl) ?_)
  go_ret
  exact⟨by rw[HX.out]<;>rfl,HK.out.b⟩
 cases b2
 case false=>
  cases b3
  case true=>
   go_wp2_with (first|refine wpList_exe (exec_iE (m:=rr) (n:=0) _ _ (by rfl) (by rfl) (by rfl) H1.out) (by rfl) ?_|refine wpList_exe (exec_iG (m:=re) (n:=ep) _ _ (by rfl) (by rfl) (by rfl) H2.out) (by rfl) ?_|refine wpList_exe (exec_iN (m:=re) (n:=ep) _ _ (by rfl) (by rfl) (by rfl) H3.out) (by rfl) ?_)
   go_ret
   exact⟨by rw[HX.out]<;>rfl,HK.out.b⟩
  cases b4
  case true=>
   go_wp2_with (first|refine wpList_exe (exec_iE (m:=rr) (n:=0) _ _ (by rfl) (by rfl) (by rfl) H1.out) (by rfl) ?_|refine wpList_exe (exec_iG (m:=re) (n:=ep) _ _ (by rfl) (by rfl) (by rfl) H2.out) (by rfl) ?_|refine wpList_exe (exec_iN (m:=re) (n:=ep) _ _ (by rfl) (by rfl) (by rfl) H3.out) (by rfl) ?_|refine wpList_exe (exec_iL (m:=rr) (n:=rq) _ _ (by rfl) (by rfl) (by rfl) H4.out) (by rfl) ?_)
   go_ret
   exact⟨by rw[HX.out]<;>rfl,HK.out.b⟩
  cases b5
  case true=>
   cases d
   ·go_wp2_with (first|refine wpList_exe (exec_iE (m:=rr) (n:=0) _ _ (by rfl) (by rfl) (by rfl) H1.out) (by rfl) ?_|refine wpList_exe (exec_iG (m:=re) (n:=ep) _ _ (by rfl) (by rfl) (by rfl) H2.out) (by rfl) ?_|refine wpList_exe (exec_iN (m:=re) (n:=ep) _ _ (by rfl) (by rfl) (by rfl) H3.out) (by rfl) ?_|refine wpList_exe (exec_iL (m:=rr) (n:=rq) _ _ (by rfl) (by rfl) (by rfl) H4.out) (by rfl) ?_|refine wpList_exe (exec_iE (m:=rr) (n:=rq) _ _ (by rfl) (by rfl) (by rfl) H5.out) (by rfl) ?_|refine wpList_exe (kse HK 2 _ (by rfl) (by rfl) (by rfl)) (by rfl) ?_)
    refine(HLa.out _).mono ?_;rintro e w1 ⟨rfl,b1⟩
    replace HK:=hkC HK b1;clear b1 k0 k1 k2 k3 q0 q1 q2
    go_wp2_with fail
    go_ret
    exact⟨by rw[HX.out]<;>rfl,HK.out.b⟩
   ·go_wp2_with (first|refine wpList_exe (exec_iE (m:=rr) (n:=0) _ _ (by rfl) (by rfl) (by rfl) H1.out) (by rfl) ?_|refine wpList_exe (exec_iG (m:=re) (n:=ep) _ _ (by rfl) (by rfl) (by rfl) H2.out) (by rfl) ?_|refine wpList_exe (exec_iN (m:=re) (n:=ep) _ _ (by rfl) (by rfl) (by rfl) H3.out) (by rfl) ?_|refine wpList_exe (exec_iL (m:=rr) (n:=rq) _ _ (by rfl) (by rfl) (by rfl) H4.out) (by rfl) ?_|refine wpList_exe (exec_iE (m:=rr) (n:=rq) _ _ (by rfl) (by rfl) (by rfl) H5.out) (by rfl) ?_|refine wpList_exe (kse HK 2 _ (by rfl) (by rfl) (by rfl)) (by rfl) ?_)
    refine(HLa.out _).mono ?_;rintro e w1 ⟨rfl,b1⟩
    replace HK:=hkC HK b1;clear b1 k0 k1 k2 k3 q0 q1 q2
    go_wp2_with fail
    go_ret
    exact⟨by rw[HX.out]<;>rfl,HK.out.b⟩
  cases l
  case false=>
   go_wp2_with (first|refine wpList_exe (exec_iE (m:=rr) (n:=0) _ _ (by rfl) (by rfl) (by rfl) H1.out) (by rfl) ?_|refine wpList_exe (exec_iG (m:=re) (n:=ep) _ _ (by rfl) (by rfl) (by rfl) H2.out) (by rfl) ?_|refine wpList_exe (exec_iN (m:=re) (n:=ep) _ _ (by rfl) (by rfl) (by rfl) H3.out) (by rfl) ?_|refine wpList_exe (exec_iL (m:=rr) (n:=rq) _ _ (by rfl) (by rfl) (by rfl) H4.out) (by rfl) ?_|refine wpList_exe (exec_iE (m:=rr) (n:=rq) _ _ (by rfl) (by rfl) (by rfl) H5.out) (by rfl) ?_)
   go_ret
   exact⟨by rw[HX.out]<;>rfl,HK.out.b⟩
  cases b6
  case false=>
   go_wp2_with (first|refine wpList_exe (exec_iE (m:=rr) (n:=0) _ _ (by rfl) (by rfl) (by rfl) H1.out) (by rfl) ?_|refine wpList_exe (exec_iG (m:=re) (n:=ep) _ _ (by rfl) (by rfl) (by rfl) H2.out) (by rfl) ?_|refine wpList_exe (exec_iN (m:=re) (n:=ep) _ _ (by rfl) (by rfl) (by rfl) H3.out) (by rfl) ?_|refine wpList_exe (exec_iL (m:=rr) (n:=rq) _ _ (by rfl) (by rfl) (by rfl) H4.out) (by rfl) ?_|refine wpList_exe (exec_iE (m:=rr) (n:=rq) _ _ (by rfl) (by rfl) (by rfl) H5.out) (by rfl) ?_|refine wpList_exe (exec_iE (m:=rv) (n:=rq) _ _ (by rfl) (by rfl) (by rfl) H6.out) (by rfl) ?_|refine wpList_exe (exec_dec (m:=rr) (n:=rv) _ (by rfl) (by rfl) HW.out) (by rfl) ?_)
   go_ret
   exact⟨by rw[HX.out]<;>rfl,HK.out.b⟩
  cases d
  case true=>
   go_wp2_with (first|refine wpList_exe (exec_iE (m:=rr) (n:=0) _ _ (by rfl) (by rfl) (by rfl) H1.out) (by rfl) ?_|refine wpList_exe (exec_iG (m:=re) (n:=ep) _ _ (by rfl) (by rfl) (by rfl) H2.out) (by rfl) ?_|refine wpList_exe (exec_iN (m:=re) (n:=ep) _ _ (by rfl) (by rfl) (by rfl) H3.out) (by rfl) ?_|refine wpList_exe (exec_iL (m:=rr) (n:=rq) _ _ (by rfl) (by rfl) (by rfl) H4.out) (by rfl) ?_|refine wpList_exe (exec_iE (m:=rr) (n:=rq) _ _ (by rfl) (by rfl) (by rfl) H5.out) (by rfl) ?_|refine wpList_exe (exec_iE (m:=rv) (n:=rq) _ _ (by rfl) (by rfl) (by rfl) H6.out) (by rfl) ?_|refine wpList_exe (exec_dec (m:=rr) (n:=rv) _ (by rfl) (by rfl) HW.out) (by rfl) ?_)
   go_ret
   exact⟨by rw[HX.out]<;>rfl,HK.out.b⟩
  go_wp2_with (first|refine wpList_exe (exec_iE (m:=rr) (n:=0) _ _ (by rfl) (by rfl) (by rfl) H1.out) (by rfl) ?_|refine wpList_exe (exec_iG (m:=re) (n:=ep) _ _ (by rfl) (by rfl) (by rfl) H2.out) (by rfl) ?_|refine wpList_exe (exec_iN (m:=re) (n:=ep) _ _ (by rfl) (by rfl) (by rfl) H3.out) (by rfl) ?_|refine wpList_exe (exec_iL (m:=rr) (n:=rq) _ _ (by rfl) (by rfl) (by rfl) H4.out) (by rfl) ?_|refine wpList_exe (exec_iE (m:=rr) (n:=rq) _ _ (by rfl) (by rfl) (by rfl) H5.out) (by rfl) ?_|refine wpList_exe (exec_iE (m:=rv) (n:=rq) _ _ (by rfl) (by rfl) (by rfl) H6.out) (by rfl) ?_|refine wpList_exe (exec_dec (m:=rr) (n:=rv) _ (by rfl) (by rfl) HW.out) (by rfl) ?_)
  go_ret
  exact⟨by rw[HX.out]<;>rfl,HK.out.b⟩
 go_wp2_with (first|refine wpList_exe (exec_iE (m:=rr) (n:=0) _ _ (by rfl) (by rfl) (by rfl) H1.out) (by rfl) ?_|refine wpList_exe (exec_iG (m:=re) (n:=ep) _ _ (by rfl) (by rfl) (by rfl) H2.out) (by rfl) ?_)
 go_ret
 exact⟨by rw[HX.out]<;>rfl,HK.out.b⟩
theorem slook_any(t:Ses.T)(r:Rf)(w:World)(hf:Ses.Fit t)(hr:r.r≤9223372036854775807):Calls Tryz.prog 23 #[.agg (tbA t),.agg #[.int .i64 r.c,.int .i64 r.e,.int .i64 r.r]] w (IsInt (Ses.look t r) w):=by
 rw[← Ses.lookW_is hr]
 exact slook_all t r w hf
end
end Go.Proofs.YtddpmlcpfmmbeaaGreat
