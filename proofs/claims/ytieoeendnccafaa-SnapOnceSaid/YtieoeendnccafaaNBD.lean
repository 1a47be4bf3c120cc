/- What the reader's lists of pairs, of values and of requests return, or that they give up. No condition but those named. -/
import Derived.Test.YtieoeendnccafaaNTK
import Derived.Test.YtieoeendnccafaaNBC
import Derived.Test.YtieoeendnccafaaNAS
import Derived.Test.YtieoeendnccafaaNAE
set_option linter.unusedSimpArgs false
set_option linter.unusedVariables false
set_option maxRecDepth 100000
set_option maxHeartbeats 25600000
namespace Go.Proofs.Ytieoeendnccafaa
section
open Go.RowKit
def Snp.itm(k:Int):Snp.P Itm.It
 | x::r=>if x.k=k then some (x,r) else none
 | []=>none
theorem Snp.num_itm(l:Snp.Its):Snp.num l=Snp.bnd (Snp.itm 0) (fun x=>Snp.ret x.n) l:=by
 match l with
 | []=>rfl
 | x::r=>
  by_cases hk:x.k=0
  ·rw[show Snp.num (x::r)=some (x.n,r) from if_pos hk,Snp.bnd_of (show Snp.itm 0 (x::r)=some (x,r) from if_pos hk)]
   rfl
  ·rw[show Snp.num (x::r)=none from if_neg hk,Snp.bnd_none (show Snp.itm 0 (x::r)=none from if_neg hk)]
theorem Snp.txt_itm(l:Snp.Its):Snp.txt l=Snp.bnd (Snp.itm 1) (fun x=>Snp.ret x.s) l:=by
 match l with
 | []=>rfl
 | x::r=>
  by_cases hk:x.k=1
  ·rw[show Snp.txt (x::r)=some (x.s,r) from if_pos hk,Snp.bnd_of (show Snp.itm 1 (x::r)=some (x,r) from if_pos hk)]
   rfl
  ·rw[show Snp.txt (x::r)=none from if_neg hk,Snp.bnd_none (show Snp.itm 1 (x::r)=none from if_neg hk)]
theorem item_f1(k n:Int)(s:ByteArray)(w:World):(Instr.field 54 (.agg #[.int .i64 k,.int .i64 n,.string s]) 1).run Try.prog w=.ok (.int .i64 n) w:=by kernel_rfl
theorem item_f2(k n:Int)(s:ByteArray)(w:World):(Instr.field 54 (.agg #[.int .i64 k,.int .i64 n,.string s]) 2).run Try.prog w=.ok (.string s) w:=by kernel_rfl
theorem ritem_any(g:Nat)(k:Int)(l:Snp.Its)(w:World)(h:Rds g l w):Calls Try.prog 61 #[.pointer (some ⟨g,0,none⟩),.int .i64 k] w (Rp (Snp.itm k) (fun x=>.agg (itA x)) g l w):=by
 obtain⟨A,n,c,hb,hr,hl,hA,hc,hn⟩:=id h
 have HW:=zH (Rst.start h)
 have HK:=zH (Kn.start w)
 have HG:Hid (∀W,Below w.heap.size w W→W.cell? ⟨g,0,none⟩=some (.slice A n c)):=zH fun W hW=>(hW.cell (p:=⟨g,0,none⟩) hb.lt).trans (hb.cell 0)
 match l,h,hr,hl,hA,HW with
 | [],h,hr,hl,hA,HW=>
  obtain rfl:n=0:=hl.symm
  have HN:Hid (Snp.itm k []=none):=zH rfl
  clear h hr hl hA hb
  go_enter Try.func61,Try.ntmps61
  go_wp2_with (first|go_big_skip|(refine wpList_ait HK rfl rfl ?_;intro _ g1 HK';simp only[lcA,lnA] at HK';replace HK:=HK';clear HK')|refine wpList_exe (exec_cell (ad:=⟨g,0,none⟩) _ (by rfl) (by rfl) (HG.out _ HK.out.b) Try.underlying41 rfl) (by rfl) ?_)
  exact⟨rfl,Rp.no HN.out (HW.out.grown HK.out)⟩
 | x::r,h,hr,hl,hA,HW=>
  have hl2:r.length+1=n:=hl
  obtain⟨b,o,rfl,hbg,hat⟩:=hr (by show 0<r.length+1;omega)
  have hg:=hb.lt
  have HI:Hid (∀W,Below w.heap.size w W→itemLay.At W b o 0 x):=zH fun W hW=>(hat 0 x rfl).keep fun p hp=>hW.cell (by rw[hp];omega)
  have HC:Hid (∀W,Below w.heap.size w W→itemLay.Reads W g (subA 3 (some ⟨b,o,none⟩) 1 c) r∧r.length=n-1∧(subA 3 (some ⟨b,o,none⟩) 1 c=none→r=[])∧n-1≤c-1∧n-1≤16384):=zH fun W hW=>cut_one (hr.keep fun p hp=>hW.cell (by omega)) hl hc hn
  have h1:1≤n:=by omega
  have h2:((n:Int)==0)=false:=by simp;omega
  have h3:(0:Int)<(n:Int):=by omega
  by_cases hk:x.k=k
  ·have HN:Hid (Snp.itm k (x::r)=some (x,r)):=zH (if_pos hk)
   have hkk:(x.k != k)=false:=by rw[hk];simp
   clear h hr hl hA hb hat hl2 hk
   go_enter Try.func61,Try.ntmps61
   go_wp2_with (first|go_big_skip|(refine wpList_ait HK rfl rfl ?_;intro _ g1 HK';simp only[lcA,lnA] at HK';replace HK:=HK';clear HK')|refine wpList_exe (exec_cell (ad:=⟨g,0,none⟩) _ (by rfl) (by rfl) (HG.out _ HK.out.b) Try.underlying41 rfl) (by rfl) ?_|refine wpList_exe (exec_slx itemLay (b:=b) (off:=o) (i:=0) _ _ (by rfl) (by rfl) (by rfl) h1) (by rfl) ?_|refine wpList_exe (exec_cell (v:=.int .i64 x.k) (ad:=⟨b,o+0*3,none⟩) _ (by rfl) (by rfl) (HI.out _ HK.out.b 0 _ rfl) Try.underlying3 rfl) (by rfl) ?_|refine wpList_exe (exec_slv itemLay (off:=o+0*3) (x:=x) _ (by rfl) (by rfl) Try.underlying54 (HI.out _ HK.out.b)) (by rfl) ?_|(refine wpList_sit (y:=x) HK 1 rfl _ _ rfl rfl rfl rfl ?_;intro _ HK';simp only[List.set] at HK';replace HK:=HK';clear HK')|refine wpList_exe (exec_sls_l itemLay (A:=some ⟨b,o,none⟩) (lo:=1) _ _ (by rfl) (by rfl) (by rfl) h1) (by rfl) ?_|(refine wpList_srd HW HK rfl _ _ rfl rfl rfl HC ?_;intro W1 _ HW' HK';replace HW:=HW';replace HK:=HK';clear HW' HK')|refine wpList_exe (kexec_ld itemLay (p:=x) Try.underlying54 HK 1 _ (by rfl) (by rfl) (by rfl)) (by rfl) ?_|(refine wpList_sit (y:=x) HK 0 rfl _ _ rfl rfl rfl rfl ?_;intro _ HK';simp only[List.set] at HK';replace HK:=HK';clear HK'))
   exact ret_it (x:=x) Try.results61 rfl rfl (HK.out.blk 0 rfl) (Rp.yes HN.out (Rok.mk HW.out HK.out))
  ·have HN:Hid (Snp.itm k (x::r)=none):=zH (if_neg hk)
   have hkk:(x.k != k)=true:=by simpa using hk
   clear h hr hl hA hb hat hl2 hk
   go_enter Try.func61,Try.ntmps61
   go_wp2_with (first|go_big_skip|(refine wpList_ait HK rfl rfl ?_;intro _ g1 HK';simp only[lcA,lnA] at HK';replace HK:=HK';clear HK')|refine wpList_exe (exec_cell (ad:=⟨g,0,none⟩) _ (by rfl) (by rfl) (HG.out _ HK.out.b) Try.underlying41 rfl) (by rfl) ?_|refine wpList_exe (exec_slx itemLay (b:=b) (off:=o) (i:=0) _ _ (by rfl) (by rfl) (by rfl) h1) (by rfl) ?_|refine wpList_exe (exec_cell (v:=.int .i64 x.k) (ad:=⟨b,o+0*3,none⟩) _ (by rfl) (by rfl) (HI.out _ HK.out.b 0 _ rfl) Try.underlying3 rfl) (by rfl) ?_)
   exact⟨rfl,Rp.no HN.out (HW.out.grown HK.out)⟩
theorem rnum_any(g:Nat)(l:Snp.Its)(w:World)(h:Rds g l w):Calls Try.prog 37 #[.pointer (some ⟨g,0,none⟩)] w (Rp Snp.num (fun n=>.int .i64 n) g l w):=by
 have HI:=zH (fun g l w (h:Rds g l w)=>ritem_any g 0 l w h)
 have HW:=zH (Rst.start h)
 have HK:=zH (Kn.start w)
 have HP:=zH (Snp.num_itm l)
 clear h
 go_enter Try.func37,Try.ntmps37
 go_wp2_with fail
 refine(HI.out _ _ _ (HW.out.at HK.out)).mono ?_
 intro e w1 hq
 rcases hq.split with ⟨h1,rfl,hg⟩|⟨x,r,h1,rfl,hk⟩
 ·have HG:=zH (grown_thru (HW.out.grown HK.out) hg);have HN:=zH (HP.out.trans (Snp.bnd_none h1));clear hg h1 hq;go_wp2_with fail;exact⟨rfl,Rp.no HN.out HG.out⟩
 obtain⟨W1,HW1,HK1⟩:=hk.join HW.out HK.out;replace HP:=zH (HP.out.trans (Snp.bnd_of h1));replace HW:=HW1;replace HK:=HK1;clear HW1 HK1 h1 hk hq;simp only[List.append_nil] at HK
 have hf1:=item_f1 x.k x.n x.s
 unfold itA
 go_wp2_with fail
 go_ret
 exact Rp.yes HP.out (Rok.mk HW.out HK.out)
theorem wrap_us2(n:Int):IntKind.u64.wrap n=(Val.us n:Int):=by
 rw[IntKind.wrap_u64];unfold Val.us;omega
theorem rbits_any(g:Nat)(l:Snp.Its)(w:World)(h:Rds g l w):Calls Try.prog 83 #[.pointer (some ⟨g,0,none⟩)] w (Rp Snp.bit (fun f=>.int .u64 (f:Int)) g l w):=by
 have HI:=zH rnum_any
 have HW:=zH (Rst.start h)
 have HK:=zH (Kn.start w)
 have HP:=zH (show Snp.bit l=Snp.bnd Snp.num (fun n=>Snp.ret (Val.us n)) l from rfl)
 clear h
 go_enter Try.func83,Try.ntmps83
 go_wp2_with fail
 refine(HI.out _ _ _ (HW.out.at HK.out)).mono ?_
 intro e w1 hq
 rcases hq.split with ⟨h1,rfl,hg⟩|⟨x,r,h1,rfl,hk⟩
 ·have HG:=zH (grown_thru (HW.out.grown HK.out) hg);have HN:=zH (HP.out.trans (Snp.bnd_none h1));clear hg h1 hq;go_wp2_with fail;exact⟨rfl,Rp.no HN.out HG.out⟩
 obtain⟨W1,HW1,HK1⟩:=hk.join HW.out HK.out;replace HP:=zH (HP.out.trans (Snp.bnd_of h1));replace HW:=HW1;replace HK:=HK1;clear HW1 HK1 h1 hk hq;simp only[List.append_nil] at HK
 have hus:=wrap_us2 x
 go_wp2_with fail
 go_ret
 exact Rp.yes HP.out (Rok.mk HW.out HK.out)
theorem rtext_any(g:Nat)(l:Snp.Its)(w:World)(h:Rds g l w):Calls Try.prog 62 #[.pointer (some ⟨g,0,none⟩)] w (Rp Snp.txt (fun s=>.string s) g l w):=by
 have HI:=zH (fun g l w (h:Rds g l w)=>ritem_any g 1 l w h)
 have HW:=zH (Rst.start h)
 have HK:=zH (Kn.start w)
 have HP:=zH (Snp.txt_itm l)
 clear h
 go_enter Try.func62,Try.ntmps62
 go_wp2_with fail
 refine(HI.out _ _ _ (HW.out.at HK.out)).mono ?_
 intro e w1 hq
 rcases hq.split with ⟨h1,rfl,hg⟩|⟨x,r,h1,rfl,hk⟩
 ·have HG:=zH (grown_thru (HW.out.grown HK.out) hg);have HN:=zH (HP.out.trans (Snp.bnd_none h1));clear hg h1 hq;go_wp2_with fail;exact⟨rfl,Rp.no HN.out HG.out⟩
 obtain⟨W1,HW1,HK1⟩:=hk.join HW.out HK.out;replace HP:=zH (HP.out.trans (Snp.bnd_of h1));replace HW:=HW1;replace HK:=HK1;clear HW1 HK1 h1 hk hq;simp only[List.append_nil] at HK
 have hf1:=item_f2 x.k x.n x.s
 unfold itA
 go_wp2_with fail
 go_ret
 exact Rp.yes HP.out (Rok.mk HW.out HK.out)
theorem rflag_any(g:Nat)(l:Snp.Its)(w:World)(h:Rds g l w):Calls Try.prog 70 #[.pointer (some ⟨g,0,none⟩)] w (Rp Snp.flag (fun b=>.bool b) g l w):=by
 have HI:=zH rnum_any
 have HW:=zH (Rst.start h)
 have HK:=zH (Kn.start w)
 have HP:=zH (show Snp.flag l=Snp.bnd Snp.num (fun n=>if n=0∨n=1 then Snp.ret (decide (n=1)) else fun _=>none) l from rfl)
 clear h
 go_enter Try.func70,Try.ntmps70
 go_wp2_with fail
 refine(HI.out _ _ _ (HW.out.at HK.out)).mono ?_
 intro e w1 hq
 rcases hq.split with ⟨h1,rfl,hg⟩|⟨x,r,h1,rfl,hk⟩
 ·have HG:=zH (grown_thru (HW.out.grown HK.out) hg);have HN:=zH (HP.out.trans (Snp.bnd_none h1));clear hg h1 hq;go_wp2_with fail;exact⟨rfl,Rp.no HN.out HG.out⟩
 obtain⟨W1,HW1,HK1⟩:=hk.join HW.out HK.out;replace HP:=zH (HP.out.trans (Snp.bnd_of h1));replace HW:=HW1;replace HK:=HK1;clear HW1 HK1 h1 hk hq;simp only[List.append_nil] at HK
 by_cases h0:x=0
 ·subst h0
  replace HP:Hid (Snp.flag l=some (false,r)):=HP
  go_wp2_with fail
  go_ret
  exact Rp.yes HP.out (Rok.mk HW.out HK.out)
 by_cases h1:x=1
 ·subst h1
  replace HP:Hid (Snp.flag l=some (true,r)):=HP
  clear h0
  go_wp2_with fail
  go_ret
  exact Rp.yes HP.out (Rok.mk HW.out HK.out)
 have HN:Hid (Snp.flag l=none):=zH (by
  have e:=HP.out
  (try simp only at e)
  rw[if_neg (by omega)] at e
  exact e)
 have e0:(x != 0)=true:=by simpa using h0
 have e1:(x != 1)=true:=by simpa using h1
 clear HP h0 h1
 go_wp2_with fail
 exact⟨rfl,Rp.no HN.out (HW.out.grown HK.out)⟩
theorem rval_any(g:Nat)(l:Snp.Its)(w:World)(h:Rds g l w):Calls Try.prog 66 #[.pointer (some ⟨g,0,none⟩)] w (Rp Snp.val vv g l w):=by
 obtain⟨A,n,c,hb,hr,hl,hA,hc,hn⟩:=id h
 have HW:=zH (Rst.start h)
 have HK:=zH (Kn.start w)
 have hg:=hb.lt
 have HG:Hid (∀W,Below w.heap.size w W→W.cell? ⟨g,0,none⟩=some (.slice A n c)):=zH fun W hW=>(hW.cell (p:=⟨g,0,none⟩) hg).trans (hb.cell 0)
 have HF:Hid (∀W,Below w.heap.size w W→Calls Try.prog 82 #[.slice A n c,.int .i64 0] W (IsVF2 (Val.take l) 0 (0+(Val.items (Val.take l)).length) n (0<n∧Val.chk (Val.take l)=0∧0+(Val.items (Val.take l)).length≤n∧l.take (Val.items (Val.take l)).length=Val.items (Val.take l)) W)):=zH fun W hW=>
  vfrom2_any A c n 0 l W hl (Nat.zero_le _) hc (by omega) ((hr.keep fun p hp=>hW.cell (by omega)).more (by have:=hW.size;omega))
 by_cases hcc:0<n∧Val.chk (Val.take l)=0∧0+(Val.items (Val.take l)).length≤n∧l.take (Val.items (Val.take l)).length=Val.items (Val.take l)
 ·have HN:Hid (Snp.val l=some (Val.take l,l.drop (Val.items (Val.take l)).length)):=zH (if_pos ⟨by omega,hcc.2.1,by have:=hcc.2.2.1;omega,hcc.2.2.2⟩)
  have hle:(Val.items (Val.take l)).length≤n:=by have:=hcc.2.2.1;omega
  obtain⟨b,o,rfl,hbg,hat⟩:=hr (by rw[hl];exact hcc.1)
  have HC:Hid (∀W,Below w.heap.size w W→itemLay.Reads W g (subA 3 (some ⟨b,o,none⟩) (Val.items (Val.take l)).length c) (l.drop (Val.items (Val.take l)).length)∧(l.drop (Val.items (Val.take l)).length).length=n-(Val.items (Val.take l)).length∧(subA 3 (some ⟨b,o,none⟩) (Val.items (Val.take l)).length c=none→l.drop (Val.items (Val.take l)).length=[])∧n-(Val.items (Val.take l)).length≤c-(Val.items (Val.take l)).length∧n-(Val.items (Val.take l)).length≤16384):=zH fun W hW=>cut_some _ (hr.keep fun p hp=>hW.cell (by omega)) hl hc hn hle
  unfold IsVF2 at HF
  have HCC:=zH hcc
  clear h hr hl hA hb hat hcc
  rw[Nat.zero_add] at HF
  generalize hm:(Val.items (Val.take l)).length=m at *
  clear hm
  generalize l.drop m=r at *
  generalize hv:Val.take l=v at *
  clear hv
  go_enter Try.func66,Try.ntmps66
  go_wp2_with (first|(refine wpList_akv HK rfl rfl ?_;intro _ g1 HK';simp only[lcA,lnA] at HK';replace HK:=HK';clear HK')|refine wpList_exe (exec_cell (ad:=⟨g,0,none⟩) _ (by rfl) (by rfl) (HG.out _ HK.out.b) Try.underlying41 rfl) (by rfl) ?_)
  refine(HF.out _ HK.out.b).mono ?_;rintro e w1 ⟨u,y,bb,rfl,f1,f2,f3,f4,b1⟩
  obtain⟨rfl,rfl,rfl⟩:=f1 (by simpa using HCC.out)
  replace HK:=hkC HK b1
  clear f1 f2 f3 f4 b1 HF HCC
  unfold vv
  go_wp2_with (first|(refine wpList_akv HK rfl rfl ?_;intro _ g2 HK';simp only[lcA,lnA] at HK';replace HK:=HK';clear HK')|(refine wpList_sv HK 1 rfl _ _ rfl rfl rfl rfl ?_;intro _ HK';simp only[List.set] at HK';replace HK:=HK';clear HK')|refine wpList_exe (exec_cell (ad:=⟨g,0,none⟩) _ (by rfl) (by rfl) (HG.out _ HK.out.b) Try.underlying41 rfl) (by rfl) ?_|refine wpList_exe (exec_sls_l itemLay (A:=some ⟨b,o,none⟩) (lo:=y) _ _ (by rfl) (by rfl) (by rfl) hle) (by rfl) ?_|(refine wpList_srd HW HK rfl _ _ rfl rfl rfl HC ?_;intro W1 _ HW' HK';replace HW:=HW';replace HK:=HK';clear HW' HK')|refine wpList_exe (kexec_vv HK 1 _ (by rfl) (by rfl) (by rfl)) (by rfl) ?_|(refine wpList_sv HK 0 rfl _ _ rfl rfl rfl rfl ?_;intro _ HK';simp only[List.set] at HK';replace HK:=HK';clear HK'))
  exact ret_v Try.results66 rfl rfl (HK.out.blk 0 rfl) (Rp.yes HN.out (Rok.mk HW.out HK.out))
 ·have HN:Hid (Snp.val l=none):=zH (if_neg fun q=>hcc ⟨by omega,q.2.1,by omega,q.2.2.2⟩)
  unfold IsVF2 at HF
  have HCC:=zH hcc
  clear h hr hl hA hb hcc
  go_enter Try.func66,Try.ntmps66
  go_wp2_with (first|(refine wpList_akv HK rfl rfl ?_;intro _ g1 HK';simp only[lcA,lnA] at HK';replace HK:=HK';clear HK')|refine wpList_exe (exec_cell (ad:=⟨g,0,none⟩) _ (by rfl) (by rfl) (HG.out _ HK.out.b) Try.underlying41 rfl) (by rfl) ?_)
  refine(HF.out _ HK.out.b).mono ?_;rintro e w1 ⟨u,y,bb,rfl,f1,f2,f3,f4,b1⟩
  obtain rfl:=f2 HCC.out
  replace HK:=hkC HK b1
  clear f1 f2 f3 f4 b1 HF HCC
  unfold vv
  go_wp2_with (first|(refine wpList_akv HK rfl rfl ?_;intro _ g2 HK';simp only[lcA,lnA] at HK';replace HK:=HK';clear HK')|(refine wpList_sv HK 1 rfl _ _ rfl rfl rfl rfl ?_;intro _ HK';simp only[List.set] at HK';replace HK:=HK';clear HK'))
  exact⟨rfl,Rp.no HN.out (HW.out.grown HK.out)⟩
theorem rref_any(g:Nat)(l:Snp.Its)(w:World)(h:Rds g l w):Calls Try.prog 68 #[.pointer (some ⟨g,0,none⟩)] w (Rp Snp.rfP (fun r=>rv r) g l w):=by
 have HN_:=zH rnum_any
 have HW:=zH (Rst.start h)
 have HK:=zH (Kn.start w)
 have HP:=zH (show Snp.rfP l=(Snp.bnd Snp.num fun a=>Snp.bnd Snp.num fun b=>Snp.bnd Snp.num fun c=>Snp.ret ⟨a,b,c⟩) l from rfl)
 clear h
 go_enter Try.func68,Try.ntmps68
 go_wp2_with (first|(refine wpList_akr HK rfl rfl ?_;intro _ g1 HK';simp only[lcA,lnA] at HK';replace HK:=HK';clear HK'))
 refine(HN_.out _ _ _ (HW.out.at HK.out)).mono ?_
 intro e w1 hq
 rcases hq.split with ⟨h1,rfl,hg⟩|⟨a,r1,h1,rfl,hk⟩
 ·have HG:=zH (grown_thru (HW.out.grown HK.out) hg);have HN:=zH (HP.out.trans (Snp.bnd_none h1));clear hg h1 hq;go_wp2_with fail;exact⟨rfl,Rp.no HN.out HG.out⟩
 obtain⟨W1,HW1,HK1⟩:=hk.join HW.out HK.out;replace HP:=zH (HP.out.trans (Snp.bnd_of h1));replace HW:=HW1;replace HK:=HK1;clear HW1 HK1 h1 hk hq;simp only[List.append_nil] at HK
 go_wp2_with (first|fail)
 refine(HN_.out _ _ _ (HW.out.at HK.out)).mono ?_
 intro e w1 hq
 rcases hq.split with ⟨h1,rfl,hg⟩|⟨b,r2,h1,rfl,hk⟩
 ·have HG:=zH (grown_thru (HW.out.grown HK.out) hg);have HN:=zH (HP.out.trans (Snp.bnd_none h1));clear hg h1 hq;go_wp2_with fail;exact⟨rfl,Rp.no HN.out HG.out⟩
 obtain⟨W1,HW1,HK1⟩:=hk.join HW.out HK.out;replace HP:=zH (HP.out.trans (Snp.bnd_of h1));replace HW:=HW1;replace HK:=HK1;clear HW1 HK1 h1 hk hq;simp only[List.append_nil] at HK
 go_wp2_with (first|fail)
 refine(HN_.out _ _ _ (HW.out.at HK.out)).mono ?_
 intro e w1 hq
 rcases hq.split with ⟨h1,rfl,hg⟩|⟨c,r3,h1,rfl,hk⟩
 ·have HG:=zH (grown_thru (HW.out.grown HK.out) hg);have HN:=zH (HP.out.trans (Snp.bnd_none h1));clear hg h1 hq;go_wp2_with fail;exact⟨rfl,Rp.no HN.out HG.out⟩
 obtain⟨W1,HW1,HK1⟩:=hk.join HW.out HK.out;replace HP:=zH (HP.out.trans (Snp.bnd_of h1));replace HW:=HW1;replace HK:=HK1;clear HW1 HK1 h1 hk hq;simp only[List.append_nil] at HK
 go_wp2_with (first|(refine wpList_sr HK 0 rfl _ _ rfl rfl rfl rfl ?_;intro _ HK';simp only[List.set] at HK';replace HK:=HK';clear HK'))
 exact ret_r Try.results68 rfl rfl (HK.out.blk 0 rfl) (Rp.yes (x:=(⟨a,b,c⟩:Rf)) HP.out (Rok.mk HW.out HK.out))
theorem rmt_any(g:Nat)(l:Snp.Its)(w:World)(h:Rds g l w):Calls Try.prog 69 #[.pointer (some ⟨g,0,none⟩)] w (Rp Snp.mtP (fun m=>.agg #[.int .i64 m.n,.int .u64 (m.s:Int),.int .u64 (m.l:Int),.int .u64 (m.m:Int)]) g l w):=by
 have HN_:=zH rnum_any
 have HB_:=zH rbits_any
 have HW:=zH (Rst.start h)
 have HK:=zH (Kn.start w)
 have HP:=zH (show Snp.mtP l=(Snp.bnd Snp.num fun a=>Snp.bnd Snp.bit fun b=>Snp.bnd Snp.bit fun c=>Snp.bnd Snp.bit fun d=>Snp.ret ⟨a,b,c,d⟩) l from rfl)
 clear h
 go_enter Try.func69,Try.ntmps69
 go_wp2_with (first|(refine wpList_akm HK rfl rfl ?_;intro _ g1 HK';simp only[lcA,lnA] at HK';replace HK:=HK';clear HK'))
 refine(HN_.out _ _ _ (HW.out.at HK.out)).mono ?_
 intro e w1 hq
 rcases hq.split with ⟨h1,rfl,hg⟩|⟨a,r1,h1,rfl,hk⟩
 ·have HG:=zH (grown_thru (HW.out.grown HK.out) hg);have HN:=zH (HP.out.trans (Snp.bnd_none h1));clear hg h1 hq;go_wp2_with fail;exact⟨rfl,Rp.no HN.out HG.out⟩
 obtain⟨W1,HW1,HK1⟩:=hk.join HW.out HK.out;replace HP:=zH (HP.out.trans (Snp.bnd_of h1));replace HW:=HW1;replace HK:=HK1;clear HW1 HK1 h1 hk hq;simp only[List.append_nil] at HK
 go_wp2_with (first|fail)
 refine(HB_.out _ _ _ (HW.out.at HK.out)).mono ?_
 intro e w1 hq
 rcases hq.split with ⟨h1,rfl,hg⟩|⟨b,r2,h1,rfl,hk⟩
 ·have HG:=zH (grown_thru (HW.out.grown HK.out) hg);have HN:=zH (HP.out.trans (Snp.bnd_none h1));clear hg h1 hq;go_wp2_with fail;exact⟨rfl,Rp.no HN.out HG.out⟩
 obtain⟨W1,HW1,HK1⟩:=hk.join HW.out HK.out;replace HP:=zH (HP.out.trans (Snp.bnd_of h1));replace HW:=HW1;replace HK:=HK1;clear HW1 HK1 h1 hk hq;simp only[List.append_nil] at HK
 go_wp2_with (first|fail)
 refine(HB_.out _ _ _ (HW.out.at HK.out)).mono ?_
 intro e w1 hq
 rcases hq.split with ⟨h1,rfl,hg⟩|⟨c,r3,h1,rfl,hk⟩
 ·have HG:=zH (grown_thru (HW.out.grown HK.out) hg);have HN:=zH (HP.out.trans (Snp.bnd_none h1));clear hg h1 hq;go_wp2_with fail;exact⟨rfl,Rp.no HN.out HG.out⟩
 obtain⟨W1,HW1,HK1⟩:=hk.join HW.out HK.out;replace HP:=zH (HP.out.trans (Snp.bnd_of h1));replace HW:=HW1;replace HK:=HK1;clear HW1 HK1 h1 hk hq;simp only[List.append_nil] at HK
 go_wp2_with (first|fail)
 refine(HB_.out _ _ _ (HW.out.at HK.out)).mono ?_
 intro e w1 hq
 rcases hq.split with ⟨h1,rfl,hg⟩|⟨d,r4,h1,rfl,hk⟩
 ·have HG:=zH (grown_thru (HW.out.grown HK.out) hg);have HN:=zH (HP.out.trans (Snp.bnd_none h1));clear hg h1 hq;go_wp2_with fail;exact⟨rfl,Rp.no HN.out HG.out⟩
 obtain⟨W1,HW1,HK1⟩:=hk.join HW.out HK.out;replace HP:=zH (HP.out.trans (Snp.bnd_of h1));replace HW:=HW1;replace HK:=HK1;clear HW1 HK1 h1 hk hq;simp only[List.append_nil] at HK
 go_wp2_with (first|(refine wpList_sm HK 0 rfl _ _ rfl rfl rfl rfl ?_;intro _ HK';simp only[List.set] at HK';replace HK:=HK';clear HK'))
 exact ret_c Try.results69 rfl rfl (HK.out.blk 0 rfl) Try.underlying67 info_m4 (Rp.yes (x:=(⟨a,b,c,d⟩:Mtr)) HP.out (Rok.mk HW.out HK.out))
theorem rpr_any(g:Nat)(l:Snp.Its)(w:World)(h:Rds g l w):Calls Try.prog 64 #[.pointer (some ⟨g,0,none⟩)] w (Rp Snp.prP (fun p=>.agg (prA p)) g l w):=by
 have HT:=zH rtext_any
 have HV:=zH rval_any
 have HW:=zH (Rst.start h)
 have HK:=zH (Kn.start w)
 have HP:=zH (show Snp.prP l=(Snp.bnd Snp.txt fun k=>Snp.bnd Snp.val fun v=>Snp.ret ⟨k,v⟩) l from rfl)
 clear h
 go_enter Try.func64,Try.ntmps64
 go_wp2_with (first|(refine wpList_akp HK rfl rfl ?_;intro _ g1 HK';simp only[lnA] at HK';replace HK:=HK';clear HK'))
 refine(HT.out _ _ _ (HW.out.at HK.out)).mono ?_
 intro e w1 hq
 rcases hq.split with ⟨h1,rfl,hg⟩|⟨k,r1,h1,rfl,hk⟩
 ·have HG:=zH (grown_thru (HW.out.grown HK.out) hg);have HN:=zH (HP.out.trans (Snp.bnd_none h1));clear hg h1 hq;go_wp2_with fail;exact⟨rfl,Rp.no HN.out HG.out⟩
 obtain⟨W1,HW1,HK1⟩:=hk.join HW.out HK.out;replace HP:=zH (HP.out.trans (Snp.bnd_of h1));replace HW:=HW1;replace HK:=HK1;clear HW1 HK1 h1 hk hq;simp only[List.append_nil] at HK
 go_wp2_with (first|fail)
 refine(HV.out _ _ _ (HW.out.at HK.out)).mono ?_
 intro e w1 hq
 rcases hq.split with ⟨h1,rfl,hg⟩|⟨v,r2,h1,rfl,hk⟩
 ·have HG:=zH (grown_thru (HW.out.grown HK.out) hg);have HN:=zH (HP.out.trans (Snp.bnd_none h1));clear hg h1 hq;go_wp2_with fail;exact⟨rfl,Rp.no HN.out HG.out⟩
 obtain⟨W1,HW1,HK1⟩:=hk.join HW.out HK.out;replace HP:=zH (HP.out.trans (Snp.bnd_of h1));replace HW:=HW1;replace HK:=HK1;clear HW1 HK1 h1 hk hq;simp only[List.append_nil] at HK
 unfold vv
 go_wp2_with (first|(refine wpList_sp (p1:=⟨⟨#[]⟩,⟨0,0,0,⟨#[]⟩⟩⟩) (p2:=⟨k,v⟩) HK 0 rfl _ _ rfl rfl rfl rfl ?_;intro _ HK';simp only[List.set] at HK';replace HK:=HK';clear HK'))
 exact ret_c Try.results64 rfl rfl (HK.out.blk 0 rfl) Try.underlying101 info_pr (Rp.yes (x:=(⟨k,v⟩:Dct.Pr)) HP.out (Rok.mk HW.out HK.out))
theorem rse_any(g:Nat)(l:Snp.Its)(w:World)(h:Rds g l w):Calls Try.prog 40 #[.pointer (some ⟨g,0,none⟩)] w (Rp Snp.seP (fun s=>.agg (seA s)) g l w):=by
 have HF:=zH rflag_any
 have HN_:=zH rnum_any
 have HV:=zH rval_any
 have HW:=zH (Rst.start h)
 have HK:=zH (Kn.start w)
 have HP:=zH (show Snp.seP l=(Snp.bnd Snp.flag fun a=>Snp.bnd Snp.num fun b=>Snp.bnd Snp.num fun c=>Snp.bnd Snp.flag fun d=>Snp.bnd Snp.num fun e=>Snp.bnd Snp.val fun v=>Snp.ret ⟨a,b,c,d,⟨e,v⟩⟩) l from rfl)
 clear h
 go_enter Try.func40,Try.ntmps40
 go_wp2_with (first|(refine wpList_ase HK rfl rfl ?_;intro _ g1 HK';simp only[lnA] at HK';replace HK:=HK';clear HK'))
 refine(HF.out _ _ _ (HW.out.at HK.out)).mono ?_
 intro e w1 hq
 rcases hq.split with ⟨h1,rfl,hg⟩|⟨a,r1,h1,rfl,hk⟩
 ·have HG:=zH (grown_thru (HW.out.grown HK.out) hg);have HN:=zH (HP.out.trans (Snp.bnd_none h1));clear hg h1 hq;go_wp2_with fail;exact⟨rfl,Rp.no HN.out HG.out⟩
 obtain⟨W1,HW1,HK1⟩:=hk.join HW.out HK.out;replace HP:=zH (HP.out.trans (Snp.bnd_of h1));replace HW:=HW1;replace HK:=HK1;clear HW1 HK1 h1 hk hq;simp only[List.append_nil] at HK
 go_wp2_with (first|fail)
 refine(HN_.out _ _ _ (HW.out.at HK.out)).mono ?_
 intro e w1 hq
 rcases hq.split with ⟨h1,rfl,hg⟩|⟨b,r2,h1,rfl,hk⟩
 ·have HG:=zH (grown_thru (HW.out.grown HK.out) hg);have HN:=zH (HP.out.trans (Snp.bnd_none h1));clear hg h1 hq;go_wp2_with fail;exact⟨rfl,Rp.no HN.out HG.out⟩
 obtain⟨W1,HW1,HK1⟩:=hk.join HW.out HK.out;replace HP:=zH (HP.out.trans (Snp.bnd_of h1));replace HW:=HW1;replace HK:=HK1;clear HW1 HK1 h1 hk hq;simp only[List.append_nil] at HK
 go_wp2_with (first|fail)
 refine(HN_.out _ _ _ (HW.out.at HK.out)).mono ?_
 intro e w1 hq
 rcases hq.split with ⟨h1,rfl,hg⟩|⟨c,r3,h1,rfl,hk⟩
 ·have HG:=zH (grown_thru (HW.out.grown HK.out) hg);have HN:=zH (HP.out.trans (Snp.bnd_none h1));clear hg h1 hq;go_wp2_with fail;exact⟨rfl,Rp.no HN.out HG.out⟩
 obtain⟨W1,HW1,HK1⟩:=hk.join HW.out HK.out;replace HP:=zH (HP.out.trans (Snp.bnd_of h1));replace HW:=HW1;replace HK:=HK1;clear HW1 HK1 h1 hk hq;simp only[List.append_nil] at HK
 go_wp2_with (first|fail)
 refine(HF.out _ _ _ (HW.out.at HK.out)).mono ?_
 intro e w1 hq
 rcases hq.split with ⟨h1,rfl,hg⟩|⟨d,r4,h1,rfl,hk⟩
 ·have HG:=zH (grown_thru (HW.out.grown HK.out) hg);have HN:=zH (HP.out.trans (Snp.bnd_none h1));clear hg h1 hq;go_wp2_with fail;exact⟨rfl,Rp.no HN.out HG.out⟩
 obtain⟨W1,HW1,HK1⟩:=hk.join HW.out HK.out;replace HP:=zH (HP.out.trans (Snp.bnd_of h1));replace HW:=HW1;replace HK:=HK1;clear HW1 HK1 h1 hk hq;simp only[List.append_nil] at HK
 go_wp2_with (first|fail)
 refine(HN_.out _ _ _ (HW.out.at HK.out)).mono ?_
 intro e w1 hq
 rcases hq.split with ⟨h1,rfl,hg⟩|⟨x,r5,h1,rfl,hk⟩
 ·have HG:=zH (grown_thru (HW.out.grown HK.out) hg);have HN:=zH (HP.out.trans (Snp.bnd_none h1));clear hg h1 hq;go_wp2_with fail;exact⟨rfl,Rp.no HN.out HG.out⟩
 obtain⟨W1,HW1,HK1⟩:=hk.join HW.out HK.out;replace HP:=zH (HP.out.trans (Snp.bnd_of h1));replace HW:=HW1;replace HK:=HK1;clear HW1 HK1 h1 hk hq;simp only[List.append_nil] at HK
 go_wp2_with (first|fail)
 refine(HV.out _ _ _ (HW.out.at HK.out)).mono ?_
 intro e w1 hq
 rcases hq.split with ⟨h1,rfl,hg⟩|⟨v,r6,h1,rfl,hk⟩
 ·have HG:=zH (grown_thru (HW.out.grown HK.out) hg);have HN:=zH (HP.out.trans (Snp.bnd_none h1));clear hg h1 hq;go_wp2_with fail;exact⟨rfl,Rp.no HN.out HG.out⟩
 obtain⟨W1,HW1,HK1⟩:=hk.join HW.out HK.out;replace HP:=zH (HP.out.trans (Snp.bnd_of h1));replace HW:=HW1;replace HK:=HK1;clear HW1 HK1 h1 hk hq;simp only[List.append_nil] at HK
 unfold vv
 go_wp2_with (first|(refine wpList_sse (u:=⟨a,b,c,d,⟨x,v⟩⟩) HK 0 rfl _ _ rfl rfl rfl rfl ?_;intro _ HK';simp only[List.set] at HK';replace HK:=HK';clear HK'))
 exact ret_se Try.results40 rfl rfl (HK.out.blk 0 rfl) (Rp.yes (x:=(⟨a,b,c,d,⟨x,v⟩⟩:Ses.S)) HP.out (Rok.mk HW.out HK.out))
end
section
namespace Snp
def Eats{α:Type}(p:P α):Prop:=∀l x r,p l=some (x,r)→r.length<l.length
def Cuts{α:Type}(p:P α):Prop:=∀l x r,p l=some (x,r)→r.length≤l.length
theorem Eats.cuts{α:Type}{p:P α}(h:Eats p):Cuts p:=fun l x r e=>Nat.le_of_lt (h l x r e)
theorem ret_cuts{α:Type}(a:α):Cuts (ret a):=fun l x r e=>by
 obtain⟨_,rfl⟩:=ret_some e
 exact Nat.le_refl _
theorem none_cuts{α:Type}:Cuts (fun _=>none:P α):=fun l x r e=>by cases e
theorem bnd_eats{α β:Type}{p:P α}{f:α→P β}(hp:Eats p)(hf:∀a,Cuts (f a)):Eats (bnd p f):=fun l x r e=>by
 obtain⟨a,q,h1,h2⟩:=bnd_some e
 exact Nat.lt_of_le_of_lt (hf a q x r h2) (hp l a q h1)
theorem bnd_cuts{α β:Type}{p:P α}{f:α→P β}(hp:Cuts p)(hf:∀a,Cuts (f a)):Cuts (bnd p f):=fun l x r e=>by
 obtain⟨a,q,h1,h2⟩:=bnd_some e
 exact Nat.le_trans (hf a q x r h2) (hp l a q h1)
theorem num_eats:Eats num:=fun l x r h=>by
 match l,h with
 | y::t,h=>
  have h:(if y.k=0 then some (y.n,t) else none)=some (x,r):=h
  split at h
  ·cases h;exact Nat.lt_succ_self _
  ·cases h
theorem txt_eats:Eats txt:=fun l x r h=>by
 match l,h with
 | y::t,h=>
  have h:(if y.k=1 then some (y.s,t) else none)=some (x,r):=h
  split at h
  ·cases h;exact Nat.lt_succ_self _
  ·cases h
theorem val_eats:Eats val:=fun l x r h=>by
 unfold val at h
 split at h
 ·next g=>
  cases h
  rw[List.length_drop]
  have h1:0<(Val.items (Val.take l)).length:=by unfold Val.items;simp
  omega
 ·cases h
theorem prP_eats:Eats prP:=bnd_eats txt_eats fun _=>bnd_cuts val_eats.cuts fun _=>ret_cuts _
theorem rfP_eats:Eats rfP:=bnd_eats num_eats fun _=>bnd_cuts num_eats.cuts fun _=>bnd_cuts num_eats.cuts fun _=>ret_cuts _
theorem bit_cuts:Cuts bit:=bnd_cuts num_eats.cuts fun _=>ret_cuts _
theorem mtP_cuts:Cuts mtP:=bnd_cuts num_eats.cuts fun _=>bnd_cuts bit_cuts fun _=>bnd_cuts bit_cuts fun _=>bnd_cuts bit_cuts fun _=>ret_cuts _
theorem rep_cuts{α:Type}{p:P α}(hp:Cuts p):∀n,Cuts (rep p n)
 | 0=>ret_cuts _
 | n+1=>bnd_cuts hp fun _=>bnd_cuts (rep_cuts hp n) fun _=>ret_cuts _
theorem lst_cuts{α:Type}{c:Bool}{m:Int}{p:P α}(hp:Cuts p):Cuts (lst c m p):=bnd_cuts num_eats.cuts fun n=>by
 split
 ·exact none_cuts
 ·exact rep_cuts hp _
theorem obP_eats(c:Bool):Eats (obP c):=bnd_eats txt_eats fun _=>bnd_cuts num_eats.cuts fun _=>bnd_cuts num_eats.cuts fun _=>bnd_cuts num_eats.cuts fun _=>bnd_cuts (lst_cuts prP_eats.cuts) fun _=>bnd_cuts (lst_cuts val_eats.cuts) fun _=>bnd_cuts (lst_cuts rfP_eats.cuts) fun _=>bnd_cuts mtP_cuts fun _=>ret_cuts _
theorem bnd_nil{α:Type}(q:P (List α))(l:Its):bnd q (fun ys=>ret ([]++ys)) l=q l:=by
 unfold bnd
 cases h:q l with
 | none=>rfl
 | some z=>rfl
theorem rep_step{α:Type}(p:P α)(m:Nat)(xs:List α)(l:Its):bnd (rep p (m+1)) (fun ys=>ret (xs++ys)) l=bnd p (fun x=>bnd (rep p m) (fun ys=>ret ((xs++[x])++ys))) l:=by
 show bnd (bnd p fun x=>bnd (rep p m) fun l=>ret (x::l)) (fun ys=>ret (xs++ys)) l=_
 cases h:p l with
 | none=>unfold bnd;simp only[h]
 | some z=>
  obtain⟨x,r⟩:=z
  cases h2:rep p m r with
  | none=>unfold bnd;simp only[h,h2]
  | some z2=>
   obtain⟨ys,r2⟩:=z2
   unfold bnd
   simp only[h,h2,ret]
   simp
theorem rep_done{α:Type}(p:P α)(xs:List α)(l:Its):bnd (rep p 0) (fun ys=>ret (xs++ys)) l=some (xs,l):=by
 show some (xs++[],l)=_
 rw[List.append_nil]
theorem lst_neg{α:Type}{c:Bool}{m n:Int}{p:P α}{l r:Its}(h:lst c m p l=(fun n=>if n<0∨(c=true∧m<n) then fun _=>none else rep p n.toNat) n r)(hn:n<0):lst c m p l=none:=by
 rw[h]
 show(if n<0∨(c=true∧m<n) then fun _=>none else rep p n.toNat) r=none
 rw[if_pos (.inl hn)]
theorem lst_pos{α:Type}{m:Int}{N:Nat}{p:P α}{l r:Its}(h:lst false m p l=(fun n=>if n<0∨(false=true∧m<n) then fun _=>none else rep p n.toNat) (N:Int) r):lst false m p l=bnd (rep p (N-0)) (fun ys=>ret ([]++ys)) r:=by
 rw[h,bnd_nil]
 show(if (N:Int)<0∨(false=true∧m<N) then fun _=>none else rep p (N:Int).toNat) r=_
 rw[if_neg (fun q=>q.elim (fun q=>by omega) fun q=>by cases q.1)]
 rfl
end Snp
end
section
open Go.RowKit
def RpL{P:Program}{α:Type}(La:Lay P α)(p:Snp.P (List α))(g:Nat)(l:Snp.Its)(w:World)(e:Ending)(w':World):Prop:=match p l with
 | some (xs,r)=>∃A n c,e=.returned (.slice A n c)∧Rok g r [row La (.slice A n c) xs] w w'
 | none=>Rno g w e w'
section
variable {P:Program}{α:Type}{La:Lay P α}{p:Snp.P (List α)}{g:Nat}{l r:Snp.Its}{w w':World}{e:Ending}{xs:List α}
theorem RpL.split(h:RpL La p g l w e w'):(p l=none∧e=.panicked [{ v:=.iface 23 (.int .i64 3),recovered:=false }]∧w.grownBy w' (some g))∨∃xs r A n c,p l=some (xs,r)∧e=.returned (.slice A n c)∧Rok g r [row La (.slice A n c) xs] w w':=by
 unfold RpL at h
 split at h
 ·next x r hp=>
  obtain⟨A,n,c,h1,h2⟩:=h
  exact .inr ⟨x,r,A,n,c,hp,h1,h2⟩
 ·next hp=>exact .inl ⟨hp,h⟩
theorem RpL.yes{A:Option Addr}{n c:Nat}(hp:p l=some (xs,r))(h:Rok g r [row La (.slice A n c) xs] w w'):RpL La p g l w (.returned (.slice A n c)) w':=by
 unfold RpL
 rw[hp]
 exact⟨A,n,c,rfl,h⟩
theorem RpL.no(hp:p l=none)(h:w.grownBy w' (some g)):RpL La p g l w (.panicked [{ v:=.iface 23 (.int .i64 3),recovered:=false }]) w':=by
 unfold RpL
 rw[hp]
 exact⟨rfl,h⟩
end
theorem Rds.short{g:Nat}{l:Snp.Its}{w:World}(h:Rds g l w):l.length≤16384:=by
 obtain⟨A,n,c,_,_,hl,_,_,hn⟩:=h
 omega
theorem rlist_pr_any(g:Nat)(l:Snp.Its)(w:World)(h:Rds g l w):Calls Try.prog 63 #[.pointer (some ⟨g,0,none⟩),.func (.func 64) #[.pointer (some ⟨g,0,none⟩)] #[]] w (RpL prLay (Snp.lst false 8 Snp.prP) g l w):=by
 have HI:=zH rnum_any
 have HC:=zH rpr_any
 have HW:=zH (Rst.start h)
 have HK:=zH (Kn.start w)
 have HP:=zH (show Snp.lst false 8 Snp.prP l=Snp.bnd Snp.num (fun n=>if n<0∨(false=true∧8<n) then fun _=>none else Snp.rep Snp.prP n.toNat) l from rfl)
 clear h
 go_enter Try.func63,Try.ntmps63
 go_wp2_with fail
 refine(HI.out _ _ _ (HW.out.at HK.out)).mono ?_
 intro e w1 hq
 rcases hq.split with ⟨h1,rfl,hg⟩|⟨n,r0,h1,rfl,hk⟩
 ·have HG:=zH (grown_thru (HW.out.grown HK.out) hg);have HN:=zH (HP.out.trans (Snp.bnd_none h1));clear hg h1 hq;go_wp2_with fail;exact⟨rfl,RpL.no HN.out HG.out⟩
 obtain⟨W1,HW1,HK1⟩:=hk.join HW.out HK.out;replace HP:=zH (HP.out.trans (Snp.bnd_of h1));replace HW:=HW1;replace HK:=HK1;clear HW1 HK1 h1 hk hq;simp only[List.append_nil] at HK
 by_cases hneg:n<0
 ·have HN:=zH (Snp.lst_neg HP.out hneg)
  clear HP
  go_wp2_with fail
  exact⟨rfl,RpL.no HN.out (HW.out.grown HK.out)⟩
 obtain⟨N,rfl⟩:=Int.eq_ofNat_of_zero_le (show 0≤n by omega)
 replace HP:=zH (Snp.lst_pos HP.out)
 have HS:=zH HW.out.2.short
 clear hneg
 have hneg:¬((N:Int)<0):=by omega
 go_wp2_with (first|(refine wpList_mk0 prLay HK rfl rfl ?_;intro _ g2 HK';simp only[lnA] at HK';replace HK:=HK';clear HK'))
 clear hneg
 go_loopw [6,14] (fun vl vi wr=>∃(j:Nat) (A1:Option Addr) (c1:Nat) (xs:List Dct.Pr) (rc:Snp.Its) (W1:World),j≤N∧j≤16384∧vl=.slice A1 j c1∧vi=.int .i64 j∧Hid (xs.length=j)∧Hid (j+rc.length≤16384)∧Hid (Snp.lst false 8 Snp.prP l=Snp.bnd (Snp.rep Snp.prP (N-j)) (fun ys=>Snp.ret (xs++ys)) rc)∧Hid (Rst g w W1 rc)∧Hid (Kn w.heap.size W1 wr [] [row prLay (.slice A1 j c1) xs])) (fun _ vi _=>N-(intOf vi).toNat)
 case atStart=>exact⟨0,_,0,[],r0,_,Nat.zero_le _,Nat.zero_le _,rfl,rfl,zH rfl,zH (by have:=HS.out;omega),HP,HW,HK⟩
 case round=>
  clear HK HW HP HS
  obtain⟨j,A1,c1,xs,rc,W2,hj,hjb,rfl,rfl,HLx,HRc,HP,HW,HK⟩:=hrel
  by_cases hlt:j<N
  ·have HL2:Hid (xs.length+1≤9223372036854775807∧(xs.length+1)*prLay.bytes≤211106232532992):=zH (by
    rw[HLx.out]
    refine⟨by omega,?_⟩
    show(j+1)*56≤_
    omega)
   have HN2:Hid (∀y:Dct.Pr,(xs++[y]).length=j+1):=zH fun y=>by rw[List.length_append,HLx.out];rfl
   obtain⟨m,hm⟩:∃m,N-j=m+1:=⟨N-j-1,by omega⟩
   have HM:Hid (m=N-(j+1)):=zH (by omega)
   rw[hm,Snp.rep_step] at HP
   clear hm
   have hk2:(j:Int)<(N:Int):=by omega
   go_wp2_with fail
   refine(HC.out _ _ _ (HW.out.at HK.out)).mono ?_
   intro e w2 hq
   rcases hq.split with ⟨h1,rfl,hg⟩|⟨x,r1,h1,rfl,hk⟩
   ·have HG:=zH (grown_thru (HW.out.grown HK.out) hg);have HN:=zH (HP.out.trans (Snp.bnd_none h1));clear hg h1 hq;go_wp2_with fail;exact⟨rfl,RpL.no HN.out HG.out⟩
   have HE:=zH (Snp.prP_eats _ _ _ h1)
   obtain⟨W1,HW1,HK1⟩:=hk.join HW.out HK.out;replace HP:=zH (HP.out.trans (Snp.bnd_of h1));replace HW:=HW1;replace HK:=HK1;clear HW1 HK1 h1 hk hq;simp only[List.append_nil] at HK
   unfold prA prC
   go_wp2_with (first|(refine wpList_mk1 prLay (p:=x) HK (by decide) rfl _ rfl rfl rfl ?_;intro _ g5 HK';simp only[lcA,lnA] at HK';have HR:=zH (HK'.out.own 1 rfl).rd;replace HK:=HK';clear HK')|(at_builtin;refine wpList_kmore HK prLay 0 rfl _ _ rfl rfl rfl [x] rfl rfl HR HL2 (N:=j+1) (zH (HN2.out x)) ?_;intro A7 c7 _ HK';simp only[List.set] at HK';replace HK:=zH (HK'.out.takeR 1);simp only[List.take] at HK;clear HK' HR))
   have hjb2:j+1≤16384:=by have:=HRc.out;have:=HE.out;omega
   exact⟨⟨j+1,A7,c7,xs++[x],r1,_,by omega,hjb2,rfl,by go_num,zH (HN2.out x),zH (by have:=HRc.out;have:=HE.out;omega),zH (by rw[← HM.out];exact HP.out),HW,HK⟩,by simp[intOf];omega⟩
  ·obtain rfl:j=N:=by omega
   have HN:Hid (Snp.lst false 8 Snp.prP l=some (xs,rc)):=zH (by
    have e:=HP.out
    rw[Nat.sub_self,Snp.rep_done] at e
    exact e)
   clear HP
   go_wp2_with fail
   go_ret
   exact RpL.yes HN.out (Rok.mk HW.out HK.out)
theorem rlist_va_any(g:Nat)(l:Snp.Its)(w:World)(h:Rds g l w):Calls Try.prog 65 #[.pointer (some ⟨g,0,none⟩),.func (.func 66) #[.pointer (some ⟨g,0,none⟩)] #[]] w (RpL vaLay (Snp.lst false 8 Snp.val) g l w):=by
 have HI:=zH rnum_any
 have HC:=zH rval_any
 have HW:=zH (Rst.start h)
 have HK:=zH (Kn.start w)
 have HP:=zH (show Snp.lst false 8 Snp.val l=Snp.bnd Snp.num (fun n=>if n<0∨(false=true∧8<n) then fun _=>none else Snp.rep Snp.val n.toNat) l from rfl)
 clear h
 go_enter Try.func65,Try.ntmps65
 go_wp2_with fail
 refine(HI.out _ _ _ (HW.out.at HK.out)).mono ?_
 intro e w1 hq
 rcases hq.split with ⟨h1,rfl,hg⟩|⟨n,r0,h1,rfl,hk⟩
 ·have HG:=zH (grown_thru (HW.out.grown HK.out) hg);have HN:=zH (HP.out.trans (Snp.bnd_none h1));clear hg h1 hq;go_wp2_with fail;exact⟨rfl,RpL.no HN.out HG.out⟩
 obtain⟨W1,HW1,HK1⟩:=hk.join HW.out HK.out;replace HP:=zH (HP.out.trans (Snp.bnd_of h1));replace HW:=HW1;replace HK:=HK1;clear HW1 HK1 h1 hk hq;simp only[List.append_nil] at HK
 by_cases hneg:n<0
 ·have HN:=zH (Snp.lst_neg HP.out hneg)
  clear HP
  go_wp2_with fail
  exact⟨rfl,RpL.no HN.out (HW.out.grown HK.out)⟩
 obtain⟨N,rfl⟩:=Int.eq_ofNat_of_zero_le (show 0≤n by omega)
 replace HP:=zH (Snp.lst_pos HP.out)
 have HS:=zH HW.out.2.short
 clear hneg
 have hneg:¬((N:Int)<0):=by omega
 go_wp2_with (first|(refine wpList_mk0 vaLay HK rfl rfl ?_;intro _ g2 HK';simp only[lnA] at HK';replace HK:=HK';clear HK'))
 clear hneg
 go_loopw [6,14] (fun vl vi wr=>∃(j:Nat) (A1:Option Addr) (c1:Nat) (xs:List Val.V) (rc:Snp.Its) (W1:World),j≤N∧j≤16384∧vl=.slice A1 j c1∧vi=.int .i64 j∧Hid (xs.length=j)∧Hid (j+rc.length≤16384)∧Hid (Snp.lst false 8 Snp.val l=Snp.bnd (Snp.rep Snp.val (N-j)) (fun ys=>Snp.ret (xs++ys)) rc)∧Hid (Rst g w W1 rc)∧Hid (Kn w.heap.size W1 wr [] [row vaLay (.slice A1 j c1) xs])) (fun _ vi _=>N-(intOf vi).toNat)
 case atStart=>exact⟨0,_,0,[],r0,_,Nat.zero_le _,Nat.zero_le _,rfl,rfl,zH rfl,zH (by have:=HS.out;omega),HP,HW,HK⟩
 case round=>
  clear HK HW HP HS
  obtain⟨j,A1,c1,xs,rc,W2,hj,hjb,rfl,rfl,HLx,HRc,HP,HW,HK⟩:=hrel
  by_cases hlt:j<N
  ·have HL2:Hid (xs.length+1≤9223372036854775807∧(xs.length+1)*vaLay.bytes≤211106232532992):=zH (by
    rw[HLx.out]
    refine⟨by omega,?_⟩
    show(j+1)*40≤_
    omega)
   have HN2:Hid (∀y:Val.V,(xs++[y]).length=j+1):=zH fun y=>by rw[List.length_append,HLx.out];rfl
   obtain⟨m,hm⟩:∃m,N-j=m+1:=⟨N-j-1,by omega⟩
   have HM:Hid (m=N-(j+1)):=zH (by omega)
   rw[hm,Snp.rep_step] at HP
   clear hm
   have hk2:(j:Int)<(N:Int):=by omega
   go_wp2_with fail
   refine(HC.out _ _ _ (HW.out.at HK.out)).mono ?_
   intro e w2 hq
   rcases hq.split with ⟨h1,rfl,hg⟩|⟨x,r1,h1,rfl,hk⟩
   ·have HG:=zH (grown_thru (HW.out.grown HK.out) hg);have HN:=zH (HP.out.trans (Snp.bnd_none h1));clear hg h1 hq;go_wp2_with fail;exact⟨rfl,RpL.no HN.out HG.out⟩
   have HE:=zH (Snp.val_eats _ _ _ h1)
   obtain⟨W1,HW1,HK1⟩:=hk.join HW.out HK.out;replace HP:=zH (HP.out.trans (Snp.bnd_of h1));replace HW:=HW1;replace HK:=HK1;clear HW1 HK1 h1 hk hq;simp only[List.append_nil] at HK
   unfold vv
   go_wp2_with (first|(refine wpList_mk1 vaLay (p:=x) HK (by decide) rfl _ rfl rfl rfl ?_;intro _ g5 HK';simp only[lcA,lnA] at HK';have HR:=zH (HK'.out.own 1 rfl).rd;replace HK:=HK';clear HK')|(at_builtin;refine wpList_kmore HK vaLay 0 rfl _ _ rfl rfl rfl [x] rfl rfl HR HL2 (N:=j+1) (zH (HN2.out x)) ?_;intro A7 c7 _ HK';simp only[List.set] at HK';replace HK:=zH (HK'.out.takeR 1);simp only[List.take] at HK;clear HK' HR))
   have hjb2:j+1≤16384:=by have:=HRc.out;have:=HE.out;omega
   exact⟨⟨j+1,A7,c7,xs++[x],r1,_,by omega,hjb2,rfl,by go_num,zH (HN2.out x),zH (by have:=HRc.out;have:=HE.out;omega),zH (by rw[← HM.out];exact HP.out),HW,HK⟩,by simp[intOf];omega⟩
  ·obtain rfl:j=N:=by omega
   have HN:Hid (Snp.lst false 8 Snp.val l=some (xs,rc)):=zH (by
    have e:=HP.out
    rw[Nat.sub_self,Snp.rep_done] at e
    exact e)
   clear HP
   go_wp2_with fail
   go_ret
   exact RpL.yes HN.out (Rok.mk HW.out HK.out)
theorem rlist_rf_any(g:Nat)(l:Snp.Its)(w:World)(h:Rds g l w):Calls Try.prog 67 #[.pointer (some ⟨g,0,none⟩),.func (.func 68) #[.pointer (some ⟨g,0,none⟩)] #[]] w (RpL rfLay (Snp.lst false 5 Snp.rfP) g l w):=by
 have HI:=zH rnum_any
 have HC:=zH rref_any
 have HW:=zH (Rst.start h)
 have HK:=zH (Kn.start w)
 have HP:=zH (show Snp.lst false 5 Snp.rfP l=Snp.bnd Snp.num (fun n=>if n<0∨(false=true∧5<n) then fun _=>none else Snp.rep Snp.rfP n.toNat) l from rfl)
 clear h
 go_enter Try.func67,Try.ntmps67
 go_wp2_with fail
 refine(HI.out _ _ _ (HW.out.at HK.out)).mono ?_
 intro e w1 hq
 rcases hq.split with ⟨h1,rfl,hg⟩|⟨n,r0,h1,rfl,hk⟩
 ·have HG:=zH (grown_thru (HW.out.grown HK.out) hg);have HN:=zH (HP.out.trans (Snp.bnd_none h1));clear hg h1 hq;go_wp2_with fail;exact⟨rfl,RpL.no HN.out HG.out⟩
 obtain⟨W1,HW1,HK1⟩:=hk.join HW.out HK.out;replace HP:=zH (HP.out.trans (Snp.bnd_of h1));replace HW:=HW1;replace HK:=HK1;clear HW1 HK1 h1 hk hq;simp only[List.append_nil] at HK
 by_cases hneg:n<0
 ·have HN:=zH (Snp.lst_neg HP.out hneg)
  clear HP
  go_wp2_with fail
  exact⟨rfl,RpL.no HN.out (HW.out.grown HK.out)⟩
 obtain⟨N,rfl⟩:=Int.eq_ofNat_of_zero_le (show 0≤n by omega)
 replace HP:=zH (Snp.lst_pos HP.out)
 have HS:=zH HW.out.2.short
 clear hneg
 have hneg:¬((N:Int)<0):=by omega
 go_wp2_with (first|(refine wpList_mk0 rfLay HK rfl rfl ?_;intro _ g2 HK';simp only[lnA] at HK';replace HK:=HK';clear HK'))
 clear hneg
 go_loopw [6,14] (fun vl vi wr=>∃(j:Nat) (A1:Option Addr) (c1:Nat) (xs:List Rf) (rc:Snp.Its) (W1:World),j≤N∧j≤16384∧vl=.slice A1 j c1∧vi=.int .i64 j∧Hid (xs.length=j)∧Hid (j+rc.length≤16384)∧Hid (Snp.lst false 5 Snp.rfP l=Snp.bnd (Snp.rep Snp.rfP (N-j)) (fun ys=>Snp.ret (xs++ys)) rc)∧Hid (Rst g w W1 rc)∧Hid (Kn w.heap.size W1 wr [] [row rfLay (.slice A1 j c1) xs])) (fun _ vi _=>N-(intOf vi).toNat)
 case atStart=>exact⟨0,_,0,[],r0,_,Nat.zero_le _,Nat.zero_le _,rfl,rfl,zH rfl,zH (by have:=HS.out;omega),HP,HW,HK⟩
 case round=>
  clear HK HW HP HS
  obtain⟨j,A1,c1,xs,rc,W2,hj,hjb,rfl,rfl,HLx,HRc,HP,HW,HK⟩:=hrel
  by_cases hlt:j<N
  ·have HL2:Hid (xs.length+1≤9223372036854775807∧(xs.length+1)*rfLay.bytes≤211106232532992):=zH (by
    rw[HLx.out]
    refine⟨by omega,?_⟩
    show(j+1)*24≤_
    omega)
   have HN2:Hid (∀y:Rf,(xs++[y]).length=j+1):=zH fun y=>by rw[List.length_append,HLx.out];rfl
   obtain⟨m,hm⟩:∃m,N-j=m+1:=⟨N-j-1,by omega⟩
   have HM:Hid (m=N-(j+1)):=zH (by omega)
   rw[hm,Snp.rep_step] at HP
   clear hm
   have hk2:(j:Int)<(N:Int):=by omega
   go_wp2_with fail
   refine(HC.out _ _ _ (HW.out.at HK.out)).mono ?_
   intro e w2 hq
   rcases hq.split with ⟨h1,rfl,hg⟩|⟨x,r1,h1,rfl,hk⟩
   ·have HG:=zH (grown_thru (HW.out.grown HK.out) hg);have HN:=zH (HP.out.trans (Snp.bnd_none h1));clear hg h1 hq;go_wp2_with fail;exact⟨rfl,RpL.no HN.out HG.out⟩
   have HE:=zH (Snp.rfP_eats _ _ _ h1)
   obtain⟨W1,HW1,HK1⟩:=hk.join HW.out HK.out;replace HP:=zH (HP.out.trans (Snp.bnd_of h1));replace HW:=HW1;replace HK:=HK1;clear HW1 HK1 h1 hk hq;simp only[List.append_nil] at HK
   unfold rv
   go_wp2_with (first|(refine wpList_mk1 rfLay (p:=x) HK (by decide) rfl _ rfl rfl rfl ?_;intro _ g5 HK';simp only[lcA,lnA] at HK';have HR:=zH (HK'.out.own 1 rfl).rd;replace HK:=HK';clear HK')|(at_builtin;refine wpList_kmore HK rfLay 0 rfl _ _ rfl rfl rfl [x] rfl rfl HR HL2 (N:=j+1) (zH (HN2.out x)) ?_;intro A7 c7 _ HK';simp only[List.set] at HK';replace HK:=zH (HK'.out.takeR 1);simp only[List.take] at HK;clear HK' HR))
   have hjb2:j+1≤16384:=by have:=HRc.out;have:=HE.out;omega
   exact⟨⟨j+1,A7,c7,xs++[x],r1,_,by omega,hjb2,rfl,by go_num,zH (HN2.out x),zH (by have:=HRc.out;have:=HE.out;omega),zH (by rw[← HM.out];exact HP.out),HW,HK⟩,by simp[intOf];omega⟩
  ·obtain rfl:j=N:=by omega
   have HN:Hid (Snp.lst false 5 Snp.rfP l=some (xs,rc)):=zH (by
    have e:=HP.out
    rw[Nat.sub_self,Snp.rep_done] at e
    exact e)
   clear HP
   go_wp2_with fail
   go_ret
   exact RpL.yes HN.out (Rok.mk HW.out HK.out)
end
end Go.Proofs.Ytieoeendnccafaa
