/- Whether a state may be, as the program's loops over objects and their requests ask it. No condition but those named. -/
import Derived.Test.YtieoeendnccafaaGreatMTK
import Derived.Test.YtieoeendnccafaaGreatMAX
import Derived.Test.YtieoeendnccafaaGreatMAY
import Derived.Test.YtieoeendnccafaaGreatMAJ
import Derived.Test.YtieoeendnccafaaGreatMAN
import Derived.Deep.CutBlock
import Derived.Deep.DeepCutAuto
set_option linter.unusedSimpArgs false
set_option linter.unusedVariables false
set_option maxRecDepth 100000
set_option maxHeartbeats 25600000
namespace Go.Proofs.YtieoeendnccafaaGreat
section
open Go.RowKit
def pN(x:Oh):Nat:=if x.v.kind=3 then min 1 x.rn else 0
theorem pN_le(x:Oh):pN x≤x.rn:=by unfold pN;split<;>omega
theorem pN_take{x:Oh}(h:x.v.refs.length=x.rn):Ap.hld x.v=x.v.refs.take (pN x)∧Ap.wts x.v=x.v.refs.drop (pN x):=by
 unfold Ap.hld Ap.wts pN
 rw[← h]
 split
 ·cases hr:x.v.refs with
  | nil=>exact⟨rfl,rfl⟩
  | cons r m=>rw[show min 1 (r::m).length=1 from by rw[List.length_cons];omega];exact⟨rfl,rfl⟩
 ·exact⟨List.take_zero.symm,rfl⟩
def IsPts(x:Oh)(w:World)(e:Ending)(w':World):Prop:=∃(A1:Option Addr) (n1 c1:Nat) (A2:Option Addr) (n2 c2:Nat),e=.returned (.tuple #[.slice A1 n1 c1,.slice A2 n2 c2])∧(∀W,In W x→Sls rfLay rF W A1 n1 c1 (Ap.hld x.v)∧Sls rfLay rF W A2 n2 c2 (Ap.wts x.v))∧Below w.heap.size w w'
theorem apparts_any(x:Oh)(w:World)(hx:In w x):Calls Tryz.prog 37 #[.agg (obA x)] w (IsPts x w):=by
 have HR:=zH hx.r
 obtain⟨q1,q2⟩:=pN_take hx.r.len
 have hle:=pN_le x
 have hlc:x.rn≤x.rc:=hx.r.cap
 have HN:Hid (pN x=if x.v.kind=3 then min 1 x.rn else 0):=zH rfl
 have HS1:Hid (∀W,In W x→Sls rfLay rF W x.rA (pN x) x.rc (Ap.hld x.v)∧Sls rfLay rF W (subA 3 x.rA (pN x) x.rc) (x.rn-pN x) (x.rc-pN x) (Ap.wts x.v)):=zH fun W h=>⟨by rw[q1];exact h.r.take hle,by rw[q2];exact h.r.drop hle⟩
 have hlc2:pN x≤x.rc:=Nat.le_trans hle hlc
 clear q1 q2 hlc hx
 generalize pN x=N at *
 have HK:=kn1 w 63 (obA x)
 go_enter Tryz.func37,Tryz.ntmps37
 have HT:Hid (decide (x.v.kind=3)=true→N=min 1 x.rn):=zH fun h=>by rw[HN.out,if_pos (of_decide_eq_true h)]
 have HF:Hid (decide (x.v.kind=3)=false→N=0):=zH fun h=>by rw[HN.out,if_neg (of_decide_eq_false h)]
 obtain⟨b,hb⟩:∃b,decide (x.v.kind=3)=b:=⟨_,rfl⟩
 have E3:=zH hb
 rw[hb] at HT HF
 clear hb HN
 go_upto_if 7 with (first|refine zX (kob_k HK 0 _ (by rfl) (by rfl) (by rfl)) ?_|refine zX (exec_iE (m:=x.v.kind) (n:=3) _ _ (by rfl) (by rfl) (by rfl) E3.out) ?_)
 try simp only[ap1,ap2,ap3,ap4,ap5]
 go_cut [4] (fun v wx=>v=.int .i64 (N:Int)∧Hid (Kn w.heap.size w wx [(w.heap.size,63,obA x)] []))
 case first=>
  clear HS1 hle hlc2
  cases b with
  | true=>
   have hN:=HT.out rfl
   clear HT HF
   by_cases h0:1≤x.rn
   ·have hN:(N:Int)=1:=by omega
    have h1:(1:Int)≤(x.rn:Int):=by omega
    have h2:¬(x.rn:Int)<1:=by omega
    go_wp2_with (first|refine zX (kob_r HK 0 _ (by rfl) (by rfl) (by rfl)) ?_)
    all_goals (try omega)
    go_meet
    exact⟨by rw[hN],HK⟩
   ·have hN:(N:Int)=0:=by omega
    have h1:(x.rn:Int)=0:=by omega
    have h2:(x.rn:Int)<1:=by omega
    go_wp2_with (first|refine zX (kob_r HK 0 _ (by rfl) (by rfl) (by rfl)) ?_)
    all_goals (try omega)
    go_meet
    exact⟨by rw[hN],HK⟩
  | false=>
   have hN:=HF.out rfl
   clear HT HF
   go_wp2_with fail
   go_meet
   exact⟨by rw[hN];rfl,HK⟩
 case rest=>
 clear HK HT HF
 obtain⟨rfl,HK⟩:=hcut
 go_wp2_with fail
 have HK0:=zH HK.out.drew
 refine wp_region_held_drew (S:=(fun W=>Hid (Kn w.heap.size w W [(w.heap.size,63,obA x)] []))) (by kernel_rfl) ?_ (fun hHeld=>?_)
 ·(try dsimp only);exact HK0
 refine stk 0 12 rfl ?_
 refine stk 1 13 rfl ?_ (fun w hSw=>kob_r hSw 0 _ (by rfl) (by rfl) (by rfl))
 refine stk 2 14 rfl ?_
 refine stk 3 15 rfl ?_ (fun w hSw=>exec_srh (hi:=N) _ _ (by rfl) (by rfl) (by rfl) hlc2)
 refine stk 4 16 rfl ?_
 refine stk 5 17 rfl ?_ (fun w hSw=>kob_r hSw 0 _ (by rfl) (by rfl) (by rfl))
 refine stk 6 18 rfl ?_
 refine stk 7 19 rfl ?_ (fun w hSw=>exec_srl (lo:=N) _ _ (by rfl) (by rfl) (by rfl) hle)
 refine stk 8 2 rfl ?_
 refine stk 9 3 rfl ?_
 refine wpAnyH_done (by kernel_rfl) ?_ _
 go_wp2_with fail
 exact ret_t2 Tryz.results37 rfl rfl rfl ⟨_,_,_,_,_,_,rfl,HS1.out,hHeld.out.b⟩
end
section
open Go.RowKit
namespace Ap
def HdB(s:Ses.S)(r:Rf):Bool:=s.live&&decide (s.ep=r.e)&&decide (1≤r.r)&&(decide (r.r<s.rq) || decide (r.r=s.rq)&&s.dn)
theorem hdb_is(t:Ses.T)(r:Rf):HdB (t.get r.c) r=true↔(Hd t r∧¬(r.r=(t.get r.c).rq∧(t.get r.c).dn=false)):=by
 unfold HdB Hd
 generalize t.get r.c=s
 cases s.live<;>cases s.dn<;>simp<;>omega
def due1(s:Ses.S):Nat:=if s≠Ses.z∧s.dn=false then 1 else 0
def due(t:Ses.T):Int→Nat:=fun c=>due1 (t.get c)
theorem due_is{t:Ses.T}(h:Ses.Right t){c:Int}(hc:0≤c∧c<5):due t c=if opn (t.get c)=true then 1 else 0:=by
 have h1:=Ses.right_one h hc
 unfold due due1 opn
 by_cases he:(t.get c).ep=0
 ·rw[Ses.one_zero h1 he]
  rfl
 ·have hp:=(Ses.one_pos h1 he).2.1
  have hz:t.get c≠Ses.z:=fun g=>he (by rw[g];rfl)
  have hep:decide (0<(t.get c).ep)=true:=decide_eq_true (by omega)
  rw[hep]
  cases hd:(t.get c).dn
  ·rw[if_pos ⟨hz,rfl⟩];rfl
  ·rw[if_neg (fun g=>by cases g.2)];rfl
end Ap
theorem holds_any(t:Ses.T)(r:Rf)(w:World)(hc:0≤r.c∧r.c<5):
  Calls Tryz.prog 38 #[.agg (tbA t),.agg #[.int .i64 r.c,.int .i64 r.e,.int .i64 r.r]] w (IsB (Ap.HdB (t.get r.c) r) w):=by
 have HK:=kn2 w 31 (tbA t) 35 #[.int .i64 r.c,.int .i64 r.e,.int .i64 r.r]
 have HB:Hid (Ap.HdB (t.get r.c) r=((t.get r.c).live&&decide ((t.get r.c).ep=r.e)&&decide (1≤r.r)&&(decide (r.r<(t.get r.c).rq) || decide (r.r=(t.get r.c).rq)&&(t.get r.c).dn))):=zH rfl
 generalize Ap.HdB (t.get r.c) r=b at *
 unfold IsB
 go_enter Tryz.func38,Tryz.ntmps38
 go_upto_region 2 with (first|refine zX (krf_c (x:=r) HK 1 _ (by rfl) (by rfl) (by rfl)) ?_|refine zX (exec_ixt hc _ _ (by rfl) (by rfl) (by rfl)) ?_|refine zX (kts HK 0 hc _ (by rfl) (by rfl) (by rfl)) ?_|(refine wpList_ase HK rfl rfl ?_;intro _ g2 HK';simp only[lcA,lnA] at HK';replace HK:=HK';clear HK')|(refine wpList_sse (u:=t.get r.c) HK 2 rfl _ _ rfl rfl rfl rfl ?_;intro _ HK';simp only[List.set] at HK';replace HK:=HK';clear HK'))
 have fe:=HK.out.cell 1 rfl 1 (v:=.int .i64 r.e) rfl
 have fr:=HK.out.cell 1 rfl 2 (v:=.int .i64 r.r) rfl
 have fl:=HK.out.cell 2 rfl 0 (v:=.bool (t.get r.c).live) rfl
 have fp:=HK.out.cell 2 rfl 1 (v:=.int .i64 (t.get r.c).ep) rfl
 have fq:=HK.out.cell 2 rfl 2 (v:=.int .i64 (t.get r.c).rq) rfl
 have fd:=HK.out.cell 2 rfl 3 (v:=.bool (t.get r.c).dn) rfl
 generalize (t.get r.c).live=lv at *
 generalize (t.get r.c).ep=ep at *
 generalize (t.get r.c).rq=rq at *
 generalize (t.get r.c).dn=dn at *
 clear hc
 cases lv with
 | false=>
  have hb:b=false:=by rw[HB.out];rfl
  subst hb
  clear HB
  go_wp2_with fail
  go_ret
  exact⟨rfl,HK.out.b⟩
 | true=>
 by_cases h1:ep=r.e
 case neg=>
  have hb:b=false:=by rw[HB.out,decide_eq_false h1];rfl
  subst hb
  have hb1:(ep==r.e)=false:=by simpa using h1
  have hb2:(ep != r.e)=true:=by simpa using h1
  clear HB h1
  go_wp2_with fail
  go_ret
  exact⟨rfl,HK.out.b⟩
 case pos=>
 have hb1:(ep==r.e)=true:=by simpa using h1
 have hb2:(ep != r.e)=false:=by simpa using h1
 rw[decide_eq_true h1] at HB
 clear h1
 by_cases h2:r.r<1
 case pos=>
  have hb:b=false:=by rw[HB.out,decide_eq_false (show ¬1≤r.r by omega)];rfl
  subst hb
  clear HB
  go_wp2_with fail
  go_ret
  exact⟨rfl,HK.out.b⟩
 case neg=>
 rw[decide_eq_true (show 1≤r.r by omega)] at HB
 by_cases h3:r.r<rq
 case pos=>
  have hb:b=true:=by rw[HB.out,decide_eq_true h3];rfl
  subst hb
  clear HB
  go_wp2_with fail
  go_ret
  exact⟨rfl,HK.out.b⟩
 case neg=>
 rw[decide_eq_false h3] at HB
 by_cases h4:r.r=rq
 case neg=>
  have hb:b=false:=by rw[HB.out,decide_eq_false h4];rfl
  subst hb
  have hb3:(r.r==rq)=false:=by simpa using h4
  clear HB h4
  go_wp2_with fail
  go_ret
  exact⟨rfl,HK.out.b⟩
 case pos=>
 have hb:b=dn:=by rw[HB.out,decide_eq_true h4];cases dn<;>rfl
 subst hb
 have hb3:(r.r==rq)=true:=by simpa using h4
 clear HB h4
 cases b<;>(go_wp2_with fail;go_ret;exact⟨rfl,HK.out.b⟩)
theorem due_any(t:Ses.T)(w:World)(hf:Ses.Fit t):Calls Tryz.prog 39 #[.agg (tbA t)] w (IsPc (Ap.due t) w):=by
 have HK:=kn1 w 31 (tbA t)
 unfold IsPc
 go_enter Tryz.func39,Tryz.ntmps39
 go_upto_region 1 with (first|(refine wpList_apc HK rfl rfl ?_;intro _ g0 HK';simp only[lcA,lnA] at HK';replace HK:=HK';clear HK'))
 go_wp2_with (first|(refine wpList_apc HK rfl rfl ?_;intro _ g1 HK';simp only[lcA,lnA] at HK';replace HK:=HK';clear HK')|refine zX (exec_bpz (by rfl)) ?_|(refine wpList_spc (h2:=pcZ) HK 2 rfl _ _ rfl rfl rfl rfl ?_;intro _ HK';simp only[List.set] at HK';replace HK:=HK';clear HK')|refine zX (ktb HK 0 _ (by rfl) (by rfl) (by rfl)) ?_)
 go_loopw [8] (fun v8 wr=>∃(j:Nat) (f:Int→Nat),j≤5∧v8=.int .i64 j∧Hid (∀c:Int,0≤c∧c<5→f c=if c<(j:Int) then Ap.due t c else 0)∧Hid (Kn w.heap.size w wr [(w.heap.size,31,tbA t),(g0,76,pcA pcZ),(g1,76,pcA f)] [])) (fun v8 _=>5-(intOf v8).toNat)
 case atStart=>exact⟨0,pcZ,by omega,rfl,zH (fun c hc=>by rw[if_neg (by omega)];rfl),HK⟩
 case round=>
  clear HK
  obtain⟨j,f,hj,rfl,HF,HK⟩:=hrel
  have hj1:(0:Int)≤(j:Int):=by omega
  by_cases hlt:j<5
  case neg=>
   obtain rfl:j=5:=by omega
   have he:pcA f=pcA (Ap.due t):=by
    unfold pcA
    rw[HF.out 0 (by decide),HF.out 1 (by decide),HF.out 2 (by decide),HF.out 3 (by decide),HF.out 4 (by decide)]
    rfl
   rw[he] at HK
   go_wp2_with (first|refine zX (kpc HK 2 _ (by rfl) (by rfl) (by rfl)) ?_|(refine wpList_spc (h2:=Ap.due t) HK 1 rfl _ _ rfl rfl rfl rfl ?_;intro _ HK';simp only[List.set] at HK';replace HK:=HK';clear HK'))
   exact ret_pc Tryz.results39 rfl rfl (HK.out.blk 1 rfl) ⟨rfl,HK.out.b⟩
  case pos=>
  have hj2:(j:Int)<5:=by omega
  have hj3:j<9223372036854775807:=by omega
  have hc:0≤(j:Int)∧(j:Int)<5:=⟨hj1,hj2⟩
  by_cases hz:t.get (j:Int)=Ses.z
  case pos=>
   have HZ:Hid ((!decide (t.get (j:Int)=Ses.z))=false):=zH (by rw[decide_eq_true hz];rfl)
   have HF2:Hid (∀c:Int,0≤c∧c<5→f c=if c<((j+1:Nat):Int) then Ap.due t c else 0):=zH fun c hc2=>by
    rw[HF.out c hc2]
    by_cases e:c=(j:Int)
    ·rw[if_neg (by omega),if_pos (by omega),e]
     unfold Ap.due Ap.due1
     rw[if_neg (fun g=>g.1 hz)]
    ·by_cases e2:c<(j:Int)
     ·rw[if_pos e2,if_pos (by omega)]
     ·rw[if_neg e2,if_neg (by omega)]
   clear hz HF
   go_wp2_with (first|refine zX (exec_ixs (t:=t) hc _ _ (by rfl) (by rfl) (by rfl)) ?_|(refine wpList_ase HK rfl rfl ?_;intro _ g5 HK';simp only[lcA,lnA] at HK';replace HK:=HK';clear HK')|(refine wpList_sse (u:=t.get (j:Int)) HK 3 rfl _ _ rfl rfl rfl rfl ?_;intro _ HK';simp only[List.set] at HK';replace HK:=HK';clear HK')|refine zX (kse HK 3 _ (by rfl) (by rfl) (by rfl)) ?_|refine zX (exec_bz (by rfl)) ?_|refine zX (exec_seN _ _ (by rfl) (by rfl) (by rfl) HZ.out) ?_|refine zX (exec_add1 (j:=j) _ (by rfl) (by rfl) hj3) ?_)
   exact⟨⟨j+1,f,hlt,rfl,HF2,zH (HK.out.takeL 3)⟩,by simp[intOf];omega⟩
  case neg=>
  have HZ:Hid ((!decide (t.get (j:Int)=Ses.z))=true):=zH (by rw[decide_eq_false hz];rfl)
  cases hd:(t.get (j:Int)).dn with
  | true=>
   have HD:=zH hd
   have HF2:Hid (∀c:Int,0≤c∧c<5→f c=if c<((j+1:Nat):Int) then Ap.due t c else 0):=zH fun c hc2=>by
    rw[HF.out c hc2]
    by_cases e:c=(j:Int)
    ·rw[if_neg (by omega),if_pos (by omega),e]
     unfold Ap.due Ap.due1
     rw[if_neg (fun g=>by rw[hd] at g;cases g.2)]
    ·by_cases e2:c<(j:Int)
     ·rw[if_pos e2,if_pos (by omega)]
     ·rw[if_neg e2,if_neg (by omega)]
   clear hz hd HF
   go_wp2_with (first|refine zX (exec_ixs (t:=t) hc _ _ (by rfl) (by rfl) (by rfl)) ?_|(refine wpList_ase HK rfl rfl ?_;intro _ g5 HK';simp only[lcA,lnA] at HK';replace HK:=HK';clear HK')|(refine wpList_sse (u:=t.get (j:Int)) HK 3 rfl _ _ rfl rfl rfl rfl ?_;intro _ HK';simp only[List.set] at HK';replace HK:=HK';clear HK')|refine zX (kse HK 3 _ (by rfl) (by rfl) (by rfl)) ?_|refine zX (exec_bz (by rfl)) ?_|refine zX (exec_seN _ _ (by rfl) (by rfl) (by rfl) HZ.out) ?_|refine zX ((kse_d HK 3 _ (by rfl) (by rfl) (by rfl)).trans (by rw[HD.out])) ?_|refine zX (exec_add1 (j:=j) _ (by rfl) (by rfl) hj3) ?_)
   exact⟨⟨j+1,f,hlt,rfl,HF2,zH (HK.out.takeL 3)⟩,by simp[intOf];omega⟩
  | false=>
   have HD:=zH hd
   have HF2:Hid (∀c:Int,0≤c∧c<5→pcU f (j:Int) 1 c=if c<((j+1:Nat):Int) then Ap.due t c else 0):=zH fun c hc2=>by
    unfold pcU
    by_cases e:c=(j:Int)
    ·rw[if_pos e,if_pos (by omega),e]
     unfold Ap.due Ap.due1
     rw[if_pos ⟨hz,hd⟩]
    ·rw[if_neg e,HF.out c hc2]
     by_cases e2:c<(j:Int)
     ·rw[if_pos e2,if_pos (by omega)]
     ·rw[if_neg e2,if_neg (by omega)]
   clear hz hd HF
   go_wp2_with (first|refine zX (exec_ixs (t:=t) hc _ _ (by rfl) (by rfl) (by rfl)) ?_|(refine wpList_ase HK rfl rfl ?_;intro _ g5 HK';simp only[lcA,lnA] at HK';replace HK:=HK';clear HK')|(refine wpList_sse (u:=t.get (j:Int)) HK 3 rfl _ _ rfl rfl rfl rfl ?_;intro _ HK';simp only[List.set] at HK';replace HK:=HK';clear HK')|refine zX (kse HK 3 _ (by rfl) (by rfl) (by rfl)) ?_|refine zX (exec_bz (by rfl)) ?_|refine zX (exec_seN _ _ (by rfl) (by rfl) (by rfl) HZ.out) ?_|refine zX ((kse_d HK 3 _ (by rfl) (by rfl) (by rfl)).trans (by rw[HD.out])) ?_|refine zX (exec_ixp hc _ _ (by rfl) (by rfl) (by rfl)) ?_|(refine wpList_sp1 (v:=1) HK 2 rfl hc _ _ rfl rfl rfl rfl ?_;intro _ HK';simp only[List.set] at HK';replace HK:=HK';clear HK')|refine zX (exec_add1 (j:=j) _ (by rfl) (by rfl) hj3) ?_)
   exact⟨⟨j+1,_,hlt,rfl,HF2,zH (HK.out.takeL 3)⟩,by simp[intOf];omega⟩
end
section
namespace Ap
open Sto Ses
structure Sofar(l:List Ob)(t:T)(f:Int→Nat)(i:Nat):Prop where
 h:∀r∈H (l.take i),HdB (t.get r.c) r=true
 w:∀r∈W (l.take i),Ses.look t r=3
 p:∀c:Int,0≤c∧c<5→f c=cnt (W (l.take i)) c
 b:∀c:Int,0≤c∧c<5→f c≤5*i
theorem Sofar.nil(l:List Ob)(t:T):Sofar l t pcZ 0:=by
 refine⟨fun r hr=>?_,fun r hr=>?_,fun c _=>?_,fun c _=>Nat.zero_le _⟩
 ·rw[List.take_zero] at hr;cases hr
 ·rw[List.take_zero] at hr;cases hr
 ·rw[List.take_zero];rfl
structure Sofar1(m:List Rf)(t:T)(f f2:Int→Nat)(j:Nat):Prop where
 w:∀r∈m.take j,Ses.look t r=3
 p:∀c:Int,0≤c∧c<5→f2 c=f c+cnt (m.take j) c
theorem Sofar1.nil(m:List Rf)(t:T)(f:Int→Nat):Sofar1 m t f f 0:=
 ⟨fun r hr=>(by rw[List.take_zero] at hr;cases hr),fun c _=>(by rw[List.take_zero];rfl)⟩
theorem Sofar1.le{m:List Rf}{t:T}{f f2:Int→Nat}{j:Nat}(h:Sofar1 m t f f2 j){c:Int}(hc:0≤c∧c<5):f2 c≤f c+j:=by
 rw[h.p c hc]
 have:=cnt_len (m.take j) c
 rw[List.length_take] at this
 omega
theorem Sofar1.step{m:List Rf}{t:T}{f f2:Int→Nat}{j:Nat}{r:Rf}(h:Sofar1 m t f f2 j)(hr:m[j]?=some r)(hl:Ses.look t r=3):Sofar1 m t f (pcU f2 r.c (f2 r.c+1)) (j+1):=by
 refine⟨fun q hq=>?_,fun c hc=>?_⟩
 ·rw[List.take_add_one,hr] at hq
  rcases List.mem_append.1 hq with hq|hq
  ·exact h.w q hq
  ·have:q=r:=by simpa using hq
   rw[this];exact hl
 ·rw[cnt_take _ _ _ _ hr]
  unfold pcU
  by_cases e:c=r.c
  ·rw[if_pos e,if_pos e.symm,← e,h.p c hc]
   omega
  ·rw[if_neg e,if_neg (fun g=>e g.symm),h.p c hc]
   omega
theorem Sofar.step{l:List Ob}{t:T}{f f2:Int→Nat}{i:Nat}{o:Ob}(h:Sofar l t f i)(ho:l[i]?=some o)(h5:(wts o).length≤5)(hh:∀r∈hld o,HdB (t.get r.c) r=true)(h1:Sofar1 (wts o) t f f2 (wts o).length):Sofar l t f2 (i+1):=by
 have eH:∀r,r∈H (l.take (i+1))→r∈H (l.take i)∨r∈hld o:=fun r hr=>by
  unfold H at hr
  rw[List.take_add_one,ho,List.flatMap_append] at hr
  rcases List.mem_append.1 hr with hr|hr
  ·exact .inl hr
  ·exact .inr (by simpa using hr)
 have eW:∀r,r∈W (l.take (i+1))→r∈W (l.take i)∨r∈wts o:=fun r hr=>by
  unfold W at hr
  rw[List.take_add_one,ho,List.flatMap_append] at hr
  rcases List.mem_append.1 hr with hr|hr
  ·exact .inl hr
  ·exact .inr (by simpa using hr)
 refine⟨fun r hr=>(eH r hr).elim (h.h r) (hh r),fun r hr=>(eW r hr).elim (h.w r) fun g=>h1.w r (by rw[List.take_length];exact g),fun c hc=>?_,fun c hc=>?_⟩
 ·rw[W_take ho,h1.p c hc,List.take_length,h.p c hc]
 ·have:=h1.le hc
  have:=h.b c hc
  omega
theorem ok_no_h{n:Int}{l:List Ob}{t:T}{i:Nat}{o:Ob}{r:Rf}(ho:l[i]?=some o)(hr:r∈hld o)(hb:HdB (t.get r.c) r=false):decide (Ok ⟨n,l,t⟩)=false:=
 decide_eq_false fun h=>by
  have:=(hdb_is t r).2 (h.h r (List.mem_flatMap.2 ⟨o,List.mem_of_getElem? ho,hr⟩))
  rw[hb] at this
  cases this
theorem ok_no_w{n:Int}{l:List Ob}{t:T}{i:Nat}{o:Ob}{r:Rf}(ho:l[i]?=some o)(hr:r∈wts o)(hb:¬Ses.look t r=3):decide (Ok ⟨n,l,t⟩)=false:=
 decide_eq_false fun h=>hb (h.w r (List.mem_flatMap.2 ⟨o,List.mem_of_getElem? ho,hr⟩))
theorem ok_no{n:Int}{l:List Ob}{t:T}(h:¬0≤n∨¬Sto.Right l∨¬Ses.Right t):decide (Ok ⟨n,l,t⟩)=false:=
 decide_eq_false fun g=>by
  rcases h with h|h|h
  ·exact h g.n
  ·exact h g.l
  ·exact h g.t
theorem ok_end{n:Int}{l:List Ob}{t:T}{f:Int→Nat}(hn:0≤n)(hl:Sto.Right l)(ht:Ses.Right t)(h:Sofar l t f l.length):decide (∀c∈([0,1,2,3,4]:List Int),f c=due t c)=decide (Ok ⟨n,l,t⟩):=by
 have e:l.take l.length=l:=List.take_length
 obtain⟨h1,h2,h3,_⟩:=h
 rw[e] at h1 h2 h3
 refine decide_eq_decide.2 ⟨fun g=>⟨hn,hl,ht,h2,fun r hr=>(hdb_is t r).1 (h1 r hr),fun c hc=>?_⟩,fun g c hc=>?_⟩
 ·rw[← h3 c (five.1 hc),g c hc,due_is ht (five.1 hc)]
 ·rw[h3 c (five.1 hc),due_is ht (five.1 hc)]
  exact g.p c hc
theorem wts_few{o:Ob}(h:One o=true):(wts o).length≤5:=by
 have:=Lck.right_len (refs_right h)
 unfold wts
 split
 ·rw[List.length_drop];omega
 ·exact this
end Ap
end
end Go.Proofs.YtieoeendnccafaaGreat
