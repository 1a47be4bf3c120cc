/- What the program's Right returns. No condition but those named. -/
import Derived.Test.YtieoeendnccafaaGreatMTK
import Derived.Test.YtieoeendnccafaaGreatMAZ
import Derived.Test.YtieoeendnccafaaGreatMAM
import Derived.Test.YtieoeendnccafaaGreatMAG
import Derived.Test.YtieoeendnccafaaGreatMAI
import Derived.Test.YtieoeendnccafaaGreatMBA
import Derived.Test.YtieoeendnccafaaGreatMBB
import Derived.Deep.MidRow
set_option linter.unusedSimpArgs false
set_option linter.unusedVariables false
set_option maxRecDepth 100000
set_option maxHeartbeats 25600000
namespace Go.Proofs.YtieoeendnccafaaGreat
section
open Go.RowKit
theorem apright_any(n:Int)(A:Option Addr)(k cp:Nat)(t:Ses.T)(lo:List Oh)(w:World)(hs:Obs w A k cp lo)(hf:Ses.Fit t):
  Calls Tryz.prog 13 #[.agg (stA n A k cp t)] w (IsB (decide (Ap.Ok ⟨n,vs lo,t⟩)) w):=by
 have HK:=kn1 w 33 (stA n A k cp t)
 have HS:=zH hs
 have hln:=hs.len
 have HRt:=zH (fun W (hW:Below w.heap.size w W)=>oright_any A cp k lo W (hs.later hW))
 have HSe:=zH (fun W=>sright_any t W hf)
 have HLk:=zH (fun r W=>slook_all t r W hf)
 have HPt:=zH (fun(x:Oh) W (h:In W x)=>apparts_any x W h)
 have HHo:=zH (fun(r:Rf) W (hc:0≤r.c∧r.c<5)=>holds_any t r W hc)
 have HDu:=zH (fun W=>due_any t W hf)
 have HNo:=zH (@Ap.ok_no n (vs lo) t)
 have HNh:Hid (∀(i:Nat) o r,(vs lo)[i]?=some o→r∈Ap.hld o→Ap.HdB (t.get r.c) r=false→decide (Ap.Ok ⟨n,vs lo,t⟩)=false):=zH fun i o r h1 h2 h3=>Ap.ok_no_h h1 h2 h3
 have HNw:Hid (∀(i:Nat) o r,(vs lo)[i]?=some o→r∈Ap.wts o→¬Ses.look t r=3→decide (Ap.Ok ⟨n,vs lo,t⟩)=false):=zH fun i o r h1 h2 h3=>Ap.ok_no_w h1 h2 h3
 have HEn:Hid (0≤n→Sto.Right (vs lo)→Ses.Right t→∀f,Ap.Sofar (vs lo) t f k→decide (∀c∈([0,1,2,3,4]:List Int),f c=Ap.due t c)=decide (Ap.Ok ⟨n,vs lo,t⟩)):=zH fun h1 h2 h3 f h4=>Ap.ok_end h1 h2 h3 (by rw[vs_len,hln];exact h4)
 have HN0:=zH (Ap.Sofar.nil (vs lo) t)
 unfold IsB IsInt IsPc at *
 unfold IsPts at HPt
 generalize decide (Ap.Ok ⟨n,vs lo,t⟩)=y at *
 clear hs
 go_enter Tryz.func13,Tryz.ntmps13
 have f0:=HK.out.cell 0 rfl 0 (v:=.int .i64 n) rfl
 by_cases h0:n<0
 case pos=>
  have hy:y=false:=HNo.out (.inl (by omega))
  subst hy
  clear HNo HNh HNw HEn
  go_wp2_with fail
  go_ret
  exact⟨rfl,HK.out.b⟩
 case neg=>
 by_cases h1:Sto.Right (vs lo)
 case neg=>
  have hy:y=false:=HNo.out (.inr (.inl h1))
  subst hy
  rw[decide_eq_false h1] at HRt
  have f1:=HK.out.cell 0 rfl 1 (v:=.slice A k cp) rfl
  clear HNo HNh HNw HEn h1
  go_wp2_with fail
  refine(HRt.out _ HK.out.b).mono ?_;rintro e w1 ⟨rfl,b1⟩
  replace HK:=hkC HK b1;clear b1
  go_wp2_with fail
  go_ret
  exact⟨rfl,HK.out.b⟩
 case pos=>
 by_cases h2:Ses.Right t
 case neg=>
  have hy:y=false:=HNo.out (.inr (.inr h2))
  subst hy
  rw[decide_eq_true h1] at HRt
  rw[decide_eq_false h2] at HSe
  have f1:=HK.out.cell 0 rfl 1 (v:=.slice A k cp) rfl
  clear HNo HNh HNw HEn h1 h2
  go_wp2_with fail
  refine(HRt.out _ HK.out.b).mono ?_;rintro e w1 ⟨rfl,b1⟩
  replace HK:=hkC HK b1;clear b1
  go_wp2_with (first|refine zX (kst_t HK 0 _ (by rfl) (by rfl) (by rfl)) ?_)
  refine(HSe.out _).mono ?_;rintro e w1 ⟨rfl,b1⟩
  replace HK:=hkC HK b1;clear b1
  go_wp2_with fail
  go_ret
  exact⟨rfl,HK.out.b⟩
 case pos=>
 have HR:=zH h1
 replace HEn:=zH (HEn.out (by omega) h1 h2)
 have hk8:k≤8:=by have:=h1.len;rw[vs_len,hln] at this;exact this
 rw[decide_eq_true h1] at HRt
 rw[decide_eq_true h2] at HSe
 have f1:=HK.out.cell 0 rfl 1 (v:=.slice A k cp) rfl
 clear HNo h1 h2 hln
 go_wp2_with fail
 refine(HRt.out _ HK.out.b).mono ?_;rintro e w1 ⟨rfl,b1⟩
 replace HK:=hkC HK b1;clear b1
 go_wp2_with (first|refine zX (kst_t HK 0 _ (by rfl) (by rfl) (by rfl)) ?_)
 refine(HSe.out _).mono ?_;rintro e w1 ⟨rfl,b1⟩
 replace HK:=hkC HK b1;clear b1
 clear f0 f1
 have f1:=HK.out.cell 0 rfl 1 (v:=.slice A k cp) rfl
 go_wp2_with (first|(refine wpList_apc HK rfl rfl ?_;intro _ g3 HK';simp only[lcA,lnA] at HK';replace HK:=HK';clear HK')|refine zX (exec_bpz (by rfl)) ?_|(refine wpList_spc (h2:=pcZ) HK 1 rfl _ _ rfl rfl rfl rfl ?_;intro _ HK';simp only[List.set] at HK';replace HK:=HK';clear HK')|refine zX (kst_o HK 0 _ (by rfl) (by rfl) (by rfl)) ?_)
 clear f1 h0
 go_loopw [29] (fun v29 wr=>∃(i:Nat) (f:Int→Nat),i≤k∧v29=.int .i64 i∧Hid (Ap.Sofar (vs lo) t f i)∧Hid (Kn w.heap.size w wr [(w.heap.size,33,stA n A k cp t),(g3,76,pcA f)] [])) (fun v29 _=>k-(intOf v29).toNat)
 case atStart=>exact⟨0,pcZ,Nat.zero_le _,rfl,HN0,HK⟩
 case round=>
  clear HK HN0 HRt HSe
  obtain⟨i,f,hi,rfl,HSo,HK⟩:=hrel
  have hi1:(0:Int)≤(i:Int):=by omega
  by_cases hik:i<k
  case neg=>
   obtain rfl:i=k:=by omega
   have hi2:¬(i:Int)<(i:Int):=by omega
   have HY:=zH (HEn.out f HSo.out)
   clear HEn HNh HNw HSo
   go_wp2_with fail
   have HK0:=zH HK.out.drew
   refine wp_region_held_drew (S:=(fun W=>Hid (Kn w.heap.size w W [(w.heap.size,33,stA n A i cp t),(g3,76,pcA f)] []))) (by kernel_rfl) ?_ (fun hHeld=>?_)
   ·(try dsimp only);exact HK0
   refine stk 0 69 rfl ?_ (fun w hSw=>kpc hSw 1 _ (by rfl) (by rfl) (by rfl))
   refine stk 1 70 rfl ?_
   refine stk 2 71 rfl ?_ (fun w hSw=>kst_t hSw 0 _ (by rfl) (by rfl) (by rfl))
   refine srd1 3 (some 72) rfl (fun K hK=>?_)
   go_simp
   go_at_call 39
   refine(HDu.out _).mono ?_;rintro e w5 ⟨rfl,b5⟩;have hs:=zH (hHeld.out.call b5);clear b5
   refine hK.out _ _ hs (fun hHeld=>?_)
   clear hK K
   try simp only[ap1,ap2,ap3,ap4,ap5]
   refine stk 4 73 rfl ?_ (fun w hSw=>exec_pcE _ _ (by rfl) (by rfl) (by rfl) HY.out)
   refine stk 5 2 rfl ?_
   refine wpAnyH_done (by kernel_rfl) ?_ _
   go_wp2_with fail
   go_ret
   exact⟨rfl,hHeld.out.b⟩
  case pos=>
  have hi2:(i:Int)<(k:Int):=by omega
  have hi3:i<9223372036854775807:=by omega
  obtain⟨x,hx,hin⟩:=HS.out.get hik
  obtain⟨b,o,rfl,hat⟩:=HS.out.s.at (Nat.lt_of_le_of_lt (Nat.zero_le _) hik)
  have HX:Hid (∀W,Below w.heap.size w W→∀j v,(obL x)[j]?=some v→W.cell? ⟨b,o+i*11+j,none⟩=some v):=zH (fun W hW=>hat W hW i x hx)
  have HI:=zH hin
  have hvx:=vs_get hx
  have hone:=HR.out.ok x.v (List.mem_of_getElem? hvx)
  have HHc:Hid (∀r∈Ap.hld x.v,0≤r.c∧r.c<5):=zH fun r hr=>Ses.ok_c (Ap.refs_ok (Ap.refs_right hone) (by unfold Ap.hld at hr;split at hr;exact List.mem_of_mem_take hr;cases hr))
  have HWc:Hid (∀r∈Ap.wts x.v,0≤r.c∧r.c<5):=zH fun r hr=>Ses.ok_c (Ap.refs_ok (Ap.refs_right hone) (by unfold Ap.wts at hr;split at hr;exact List.mem_of_mem_drop hr;exact hr))
  have HH1:Hid ((Ap.hld x.v).length≤1):=zH (by unfold Ap.hld;split;(rw[List.length_take];omega);exact Nat.zero_le 1)
  have HW5:=zH (Ap.wts_few hone)
  have HNhx:Hid (∀r,r∈Ap.hld x.v→Ap.HdB (t.get r.c) r=false→y=false):=zH fun r=>HNh.out i x.v r hvx
  have HNwx:Hid (∀r,r∈Ap.wts x.v→¬Ses.look t r=3→y=false):=zH fun r=>HNw.out i x.v r hvx
  have HStep:Hid ((∀r∈Ap.hld x.v,Ap.HdB (t.get r.c) r=true)→∀f2,Ap.Sofar1 (Ap.wts x.v) t f f2 (Ap.wts x.v).length→Ap.Sofar (vs lo) t f2 (i+1)):=zH fun h1 f2 h2=>HSo.out.step hvx HW5.out h1 h2
  have HF5:Hid (∀c:Int,0≤c∧c<5→f c≤5*i):=zH HSo.out.b
  clear hat hx hin hvx hone HSo
  go_upto_region 7 with (first|(refine wpList_of_exec (v:=.agg (obA x)) (by rfl) (exec_obx (off:=o+i*11) _ (by rfl) (by rfl) (HX.out _ HK.out.b)) ?_)|(refine wpList_aob HK rfl rfl ?_;intro _ g5 HK';simp only[lcA,lnA] at HK';replace HK:=HK';clear HK')|(refine wpList_sob (y:=x) HK 2 rfl _ _ rfl rfl rfl rfl ?_;intro _ HK';simp only[List.set] at HK';replace HK:=HK';clear HK'))
  go_wp2_with (first|refine zX (kob HK 2 _ (by rfl) (by rfl) (by rfl)) ?_)
  refine(HPt.out x _ (HI.out.later HK.out.b)).mono ?_;rintro e w1 ⟨A1,n1,c1,A2,n2,c2,rfl,sl,b1⟩
  have HS1:Hid (∀W,Below w.heap.size w W→Sls rfLay rF W A1 n1 c1 (Ap.hld x.v)):=zH fun W h=>(sl W (HI.out.later h)).1
  have HS2:Hid (∀W,Below w.heap.size w W→Sls rfLay rF W A2 n2 c2 (Ap.wts x.v)):=zH fun W h=>(sl W (HI.out.later h)).2
  have hn1:=(HS1.out w (Below.refl _ _)).len
  have hn2:=(HS2.out w (Below.refl _ _)).len
  replace HK:=hkC HK b1;clear b1
  clear sl
  have hL1:n1≤1:=by rw[← hn1];exact HH1.out
  have HLn:=zH hn2
  have hL5:n2≤5:=by rw[← hn2];exact HW5.out
  generalize Ap.hld x.v=hl at *
  generalize Ap.wts x.v=wt at *
  clear hn2 HH1 HW5 HNh HNw
  go_upto_region 8 with fail
  go_cut [49] (fun v wx=>∃q:Bool,v=.bool q∧Hid (q=true→y=false)∧Hid (q=false→∀r∈hl,Ap.HdB (t.get r.c) r=true)∧Hid (Kn w.heap.size w wx [(w.heap.size,33,stA n (some ⟨b,o,none⟩) k cp t),(g3,76,pcA f),(g5,63,obA x)] []))
  case first=>
   clear HEn HStep HNwx HWc HF5 HLk HDu HS2 HPt
   by_cases h1:n1=0
   case pos=>
    subst h1
    have hnil:hl=[]:=List.length_eq_zero_iff.1 hn1
    have HK0:=zH HK.out.drew
    clear HNhx HHc hn1
    refine wp_region_held_drew (S:=(fun W=>Hid (Kn w.heap.size w W [(w.heap.size,33,stA n (some ⟨b,o,none⟩) k cp t),(g3,76,pcA f),(g5,63,obA x)] []))) (by kernel_rfl) ?_ (fun hHeld=>?_)
    ·(try dsimp only);exact HK0
    refine stk 0 38 rfl ?_
    refine stk 1 39 rfl ?_
    refine stk 2 40 rfl ?_
    refine stk 3 41 rfl ?_
    refine stu 4 42 rfl ?_
    refine stu 5 43 rfl ?_
    refine stu 6 44 rfl ?_
    refine stu 7 45 rfl ?_
    refine stu 8 46 rfl ?_
    refine stu 9 47 rfl ?_
    refine stu 10 48 rfl ?_
    refine stk 11 49 rfl ?_
    refine wpAnyH_done (by kernel_rfl) ?_ _
    go_wp2_with fail
    go_meet
    exact⟨false,rfl,zH (fun h=>by cases h),zH (fun _ r hr=>by rw[hnil] at hr;cases hr),hHeld⟩
   case neg=>
    obtain rfl:n1=1:=by omega
    obtain⟨z,hz,_⟩:=(HS1.out w (Below.refl _ _)).get (k:=0) (by decide)
    obtain⟨b2,o2,rfl,hat⟩:=(HS1.out w (Below.refl _ _)).at (by decide)
    have HZ:Hid (∀W,Below w.heap.size w W→∀q v,(rfL z)[q]?=some v→W.cell? ⟨b2,o2+0*3+q,none⟩=some v):=zH (fun W hW=>hat W hW 0 z hz)
    have hzm:=List.mem_of_getElem? hz
    have hone:∀r∈hl,r=z:=fun r hr=>by
     match hl,hn1,hz,hr with
     | [u],_,hz,hr=>
      injection hz with hz
      rw[← hz];exact List.mem_singleton.1 hr
    have hc:=HHc.out z hzm
    have HN1:=zH (HNhx.out z hzm)
    have HN2:Hid (Ap.HdB (t.get z.c) z=true→∀r∈hl,Ap.HdB (t.get r.c) r=true):=zH fun h r hr=>by rw[hone r hr];exact h
    have HHz:=zH (fun W=>HHo.out z W hc)
    have HK0:=zH HK.out.drew
    clear HNhx HHc hn1 hat hz hzm hone h1 HHo HK hL1
    generalize Ap.HdB (t.get z.c) z=q at *
    refine wp_region_held_drew (S:=(fun W=>Hid (Kn w.heap.size w W [(w.heap.size,33,stA n (some ⟨b,o,none⟩) k cp t),(g3,76,pcA f),(g5,63,obA x)] []))) (by kernel_rfl) ?_ (fun hHeld=>?_)
    ·(try dsimp only);exact HK0
    refine stk 0 38 rfl ?_
    refine stk 1 39 rfl ?_
    refine stk 2 40 rfl ?_
    refine stk 3 41 rfl ?_
    refine stk 4 42 rfl ?_
    refine stk 5 43 rfl ?_ (fun w hSw=>kst_t hSw 0 _ (by rfl) (by rfl) (by rfl))
    refine stk 6 44 rfl ?_
    refine stk 7 45 rfl ?_ (fun w hSw=>exec_slx rfLay (i:=0) _ _ (by rfl) (by rfl) (by rfl) (by decide:0<1))
    refine stk 8 46 rfl ?_ (fun w hSw=>exec_lr (x:=z) (off:=o2+0*3) _ (by rfl) (by rfl) (HZ.out _ hSw.out.b))
    refine srd1 9 (some 47) rfl (fun K hK=>?_)
    go_simp
    go_at_call 38
    refine(HHz.out _).mono ?_;rintro e w5 ⟨rfl,b5⟩;have hs:=zH (hHeld.out.call b5);clear b5
    refine hK.out _ _ hs (fun hHeld=>?_)
    clear hK K
    try simp only[ap1,ap2,ap3,ap4,ap5]
    refine stk 10 48 rfl ?_
    refine stk 11 49 rfl ?_
    refine wpAnyH_done (by kernel_rfl) ?_ _
    go_wp2_with fail
    go_meet
    cases q
    ·exact⟨true,rfl,zH (fun _=>HN1.out rfl),zH (fun h=>by cases h),hHeld⟩
    ·exact⟨false,rfl,zH (fun h=>by cases h),zH (fun _=>HN2.out rfl),hHeld⟩
  case rest=>
  clear HK HNhx HHo HHc HS1 hn1 hL1
  obtain⟨q,rfl,HQ1,HQ2,HK⟩:=hcut
  cases q with
  | true=>
   have hy:=HQ1.out rfl
   subst hy
   clear HEn HQ1 HQ2 HStep HNwx
   go_wp2_with fail
   go_ret
   exact⟨rfl,HK.out.b⟩
  | false=>
  replace HStep:=zH (HStep.out (HQ2.out rfl))
  have HM0:=zH (Ap.Sofar1.nil wt t f)
  clear HQ1 HQ2
  go_wp2_with fail
  go_loopw [52] (fun v52 wi=>∃(j:Nat) (f2:Int→Nat),j≤n2∧v52=.int .i64 j∧Hid (Ap.Sofar1 wt t f f2 j)∧Hid (Kn w.heap.size w wi [(w.heap.size,33,stA n (some ⟨b,o,none⟩) k cp t),(g3,76,pcA f2),(g5,63,obA x)] [])) (fun v52 _=>n2-(intOf v52).toNat)
  case atStart=>exact⟨0,f,Nat.zero_le _,rfl,HM0,HK⟩
  case round=>
   clear HK HM0
   obtain⟨j,f2,hj,rfl,HM,HK⟩:=hrel
   have hj1:(0:Int)≤(j:Int):=by omega
   by_cases hjm:j<n2
   case neg=>
    obtain rfl:j=n2:=by omega
    have hj2:¬(j:Int)<(j:Int):=by omega
    have HSn:Hid (Ap.Sofar (vs lo) t f2 (i+1)):=zH (HStep.out f2 (by rw[HLn.out];exact HM.out))
    clear HStep HM HNwx HEn
    go_wp2_with (first|refine zX (exec_add1 (j:=i) _ (by rfl) (by rfl) hi3) ?_)
    exact⟨⟨i+1,f2,hik,rfl,HSn,zH (HK.out.takeL 2)⟩,by simp[intOf];omega⟩
   case pos=>
   have hj2:(j:Int)<(n2:Int):=by omega
   have hj3:j<9223372036854775807:=by omega
   obtain⟨z,hz,_⟩:=(HS2.out w (Below.refl _ _)).get hjm
   obtain⟨b2,o2,rfl,hat⟩:=(HS2.out w (Below.refl _ _)).at (Nat.lt_of_le_of_lt (Nat.zero_le _) hjm)
   have HZ:Hid (∀W,Below w.heap.size w W→∀q v,(rfL z)[q]?=some v→W.cell? ⟨b2,o2+j*3+q,none⟩=some v):=zH (fun W hW=>hat W hW j z hz)
   have hzm:=List.mem_of_getElem? hz
   have hc:=HWc.out z hzm
   have hfz:f2 z.c<9223372036854775807:=by
    have h1:=HM.out.le hc
    have h2:=HF5.out z.c hc
    omega
   by_cases hl3:Ses.look t z=3
   case neg=>
    have hy:=HNwx.out z hzm hl3
    have H3:Hid ((!decide (Ses.lookW t z=3))=true):=zH (by rw[Ses.lookW_3,decide_eq_false hl3];rfl)
    subst hy
    clear HNwx HM HEn HStep hat hz hzm hl3
    have HLz:=zH (fun W=>HLk.out z W)
    clear HLk
    generalize Ses.lookW t z=lk at *
    go_wp2_with (first|refine zX (exec_lr (x:=z) (off:=o2+j*3) _ (by rfl) (by rfl) (HZ.out _ HK.out.b)) ?_|(refine wpList_akr HK rfl rfl ?_;intro _ g9 HK';simp only[lcA,lnA] at HK';replace HK:=HK';clear HK')|(refine wpList_sr HK 3 rfl _ _ rfl rfl rfl rfl ?_;intro _ HK';simp only[List.set] at HK';replace HK:=HK';clear HK')|refine zX (kst_t HK 0 _ (by rfl) (by rfl) (by rfl)) ?_|refine zX (kexec_lr HK 3 _ (by rfl) (by rfl) (by rfl)) ?_)
    refine(HLz.out _).mono ?_;rintro e w7 ⟨rfl,b7⟩
    replace HK:=hkC HK b7
    clear b7 HLz
    go_wp2_with (first|refine zX (exec_iN (m:=lk) (n:=3) _ _ (by rfl) (by rfl) (by rfl) H3.out) ?_)
    go_ret
    exact⟨rfl,HK.out.b⟩
   case pos=>
    have H3:Hid ((!decide (Ses.lookW t z=3))=false):=zH (by rw[Ses.lookW_3,decide_eq_true hl3];rfl)
    have HM2:=zH (HM.out.step hz hl3)
    have HLz:=zH (fun W=>HLk.out z W)
    clear HNwx HM HEn HStep hat hz hzm hl3 HLk
    generalize Ses.lookW t z=lk at *
    go_wp2_with (first|refine zX (exec_lr (x:=z) (off:=o2+j*3) _ (by rfl) (by rfl) (HZ.out _ HK.out.b)) ?_|(refine wpList_akr HK rfl rfl ?_;intro _ g9 HK';simp only[lcA,lnA] at HK';replace HK:=HK';clear HK')|(refine wpList_sr HK 3 rfl _ _ rfl rfl rfl rfl ?_;intro _ HK';simp only[List.set] at HK';replace HK:=HK';clear HK')|refine zX (kst_t HK 0 _ (by rfl) (by rfl) (by rfl)) ?_|refine zX (kexec_lr HK 3 _ (by rfl) (by rfl) (by rfl)) ?_)
    refine(HLz.out _).mono ?_;rintro e w7 ⟨rfl,b7⟩
    replace HK:=hkC HK b7
    clear b7 HLz
    go_wp2_with (first|refine zX (exec_iN (m:=lk) (n:=3) _ _ (by rfl) (by rfl) (by rfl) H3.out) ?_|refine zX (krf_c (x:=z) HK 3 _ (by rfl) (by rfl) (by rfl)) ?_|refine zX (exec_ixp hc _ _ (by rfl) (by rfl) (by rfl)) ?_|refine zX (kpc1 HK 1 hc _ (by rfl) (by rfl) (by rfl)) ?_|refine zX (exec_add1 (j:=f2 z.c) _ (by rfl) (by rfl) hfz) ?_|(refine wpList_sp1 (v:=f2 z.c+1) HK 1 rfl hc _ _ rfl rfl rfl rfl ?_;intro _ HK';simp only[List.set] at HK';replace HK:=HK';clear HK')|refine zX (exec_add1 (j:=j) _ (by rfl) (by rfl) hj3) ?_)
    exact⟨⟨j+1,_,hjm,rfl,HM2,zH (HK.out.takeL 3)⟩,by simp[intOf];omega⟩
end
end Go.Proofs.YtieoeendnccafaaGreat
