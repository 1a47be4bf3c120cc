/- What snap's read returns: the state that items are, or that there is none. No condition but those named. -/
import Derived.Test.YtahdlddbbnjloaaGreatNAZ
set_option linter.unusedSimpArgs false
set_option linter.unusedVariables false
set_option maxRecDepth 100000
set_option maxHeartbeats 25600000
open Go.RowKit
namespace Go.Proofs.YtahdlddbbnjloaaGreat
open _root_.Go.Proofs.Tryz
section
def aA.Yl(k:Int):aA.P ny.It
 | x::r=>if x.k=k then some (x,r) else none
 | []=>none
theorem aA.ZW(l:aA.Its):aA.num l=aA.bnd (aA.Yl 0) (fun x=>aA.ret x.n) l:=by
 match l with
 | []=>rfl
 | x::r=>
  by_cases hk:x.k=0
  ·rw[show aA.num (x::r)=some (x.n,r) from if_pos hk,aA.aV (show aA.Yl 0 (x::r)=some (x,r) from if_pos hk)]
   rfl
  ·rw[show aA.num (x::r)=none from if_neg hk,aA.bf (show aA.Yl 0 (x::r)=none from if_neg hk)]
theorem aA.YQ(l:aA.Its):aA.txt l=aA.bnd (aA.Yl 1) (fun x=>aA.ret x.s) l:=by
 match l with
 | []=>rfl
 | x::r=>
  by_cases hk:x.k=1
  ·rw[show aA.txt (x::r)=some (x.s,r) from if_pos hk,aA.aV (show aA.Yl 1 (x::r)=some (x,r) from if_pos hk)]
   rfl
  ·rw[show aA.txt (x::r)=none from if_neg hk,aA.bf (show aA.Yl 1 (x::r)=none from if_neg hk)]
theorem aax(k n:Int)(s:ByteArray)(w:World):(Instr.field 81 (.agg #[.int .i64 k,.int .i64 n,.string s]) 1).run prog w=.ok (.int .i64 n) w:=by kernel_rfl
theorem aaw(k n:Int)(s:ByteArray)(w:World):(Instr.field 81 (.agg #[.int .i64 k,.int .i64 n,.string s]) 2).run prog w=.ok (.string s) w:=by kernel_rfl
theorem CZ(g:Nat)(k:Int)(l:aA.Its)(w:World)(h:uH g l w):Calls prog 111 #[.pointer (some ⟨g,0,none⟩),.int .i64 k] w (Rp (aA.Yl k) (fun x=>.agg (Ii x)) g l w):=by
 obtain⟨A,n,c,hb,hr,hl,hA,hc,hn⟩:=id h;have HW:=zH (tq.start h);have HK:=zH (Kn.start w);have HG:Hid (∀W,Below w.heap.size w W→W.cell? ⟨g,0,none⟩=some (.slice A n c)):=zH fun W hW=>(hW.cell (p:=⟨g,0,none⟩) hb.lt).trans (hb.cell 0)
 match l,h,hr,hl,hA,HW with
 | [],h,hr,hl,hA,HW=>
  obtain rfl:n=0:=hl.symm;have HN:Hid (aA.Yl k []=none):=zH rfl;clear h hr hl hA hb;go_enter func111,ntmps111;go_wp2_with (first|go_big_skip|(refine pX HK ?_;clear HK;intro _ g1 HK;simp only[aS,aK] at HK)|refine zX (dQ (ad:=⟨g,0,none⟩) _ (HG.out _ HK.out.b) underlying53) ?_);exact Yw
 | x::r,h,hr,hl,hA,HW=>
  have hl2:r.length+1=n:=hl;obtain⟨b,o,rfl,hbg,hat⟩:=hr (by show 0<r.length+1;omega);have hg:=hb.lt;have HI:Hid (∀W,Below w.heap.size w W→aD.At W b o 0 x):=zH fun W hW=>(hat 0 x rfl).keep fun p hp=>hW.cell (by rw[hp];omega)
  have HC:Hid (∀W,Below w.heap.size w W→aD.Reads W g (mE 3 (some ⟨b,o,none⟩) 1 c) r∧r.length=n-1∧(mE 3 (some ⟨b,o,none⟩) 1 c=none→r=[])∧n-1≤c-1∧n-1≤16384):=zH fun W hW=>abu (hr.keep fun p hp=>hW.cell (by omega)) hl hc hn
  have h1:1≤n:=by omega
  have h2:((n:Int)==0)=false:=by simp;omega
  have h3:(0:Int)<(n:Int):=by omega
  by_cases hk:x.k=k
  ·have HN:Hid (aA.Yl k (x::r)=some (x,r)):=zH (if_pos hk)
   have hkk:(x.k != k)=false:=by rw[hk];simp
   clear h hr hl hA hb hat hl2 hk;go_enter func111,ntmps111;go_wp2_with (first|go_big_skip|(refine pX HK ?_;clear HK;intro _ g1 HK;simp only[aS,aK] at HK)|refine zX (dQ (ad:=⟨g,0,none⟩) _ (HG.out _ HK.out.b) underlying53) ?_|refine zX (dZ aD (b:=b) (off:=o) (i:=0) h1) ?_|refine zX (dQ (v:=.int .i64 x.k) (ad:=⟨b,o+0*3,none⟩) _ (HI.out _ HK.out.b 0 _ rfl) underlying3) ?_|refine zX (fI aD (off:=o+0*3) (x:=x) underlying81 (HI.out _ HK.out.b)) ?_|(refine uN (y:=x) HK 1 ?_;clear HK;intro _ HK;simp only[lS] at HK)|refine zX (kT aD (A:=some ⟨b,o,none⟩) (lo:=1) _ _ h1) ?_|(refine zZ HW HK rfl rfl rfl rfl HC ?_;intro W1 _ HW' dz;replace HW:=HW';replace HK:=dz;clear HW' dz)|refine zX (oC aD (p:=x) underlying81 HK 1) ?_|(refine uN (y:=x) HK 0 ?_;clear HK;intro _ HK;simp only[lS] at HK));exact ED (x:=x) results111 (HK.out.blk 0 rfl) (Rp.yes HN.out (yR.mk HW.out HK.out))
  ·have HN:Hid (aA.Yl k (x::r)=none):=zH (if_neg hk)
   have hkk:(x.k != k)=true:=by simpa using hk
   clear h hr hl hA hb hat hl2 hk;go_enter func111,ntmps111;go_wp2_with (first|go_big_skip|(refine pX HK ?_;clear HK;intro _ g1 HK;simp only[aS,aK] at HK)|refine zX (dQ (ad:=⟨g,0,none⟩) _ (HG.out _ HK.out.b) underlying53) ?_|refine zX (dZ aD (b:=b) (off:=o) (i:=0) h1) ?_|refine zX (dQ (v:=.int .i64 x.k) (ad:=⟨b,o+0*3,none⟩) _ (HI.out _ HK.out.b 0 _ rfl) underlying3) ?_);exact Yw
theorem jf(g:Nat)(l:aA.Its)(w:World)(h:uH g l w):Calls prog 76 #[.pointer (some ⟨g,0,none⟩)] w (Rp aA.num (fun n=>.int .i64 n) g l w):=by
 have HI:=zH (fun g l w (h:uH g l w)=>CZ g 0 l w h);have HW:=zH (tq.start h);have HK:=zH (Kn.start w);have HP:=zH (aA.ZW l);clear h;go_enter func76,ntmps76;go_wp2_with fail;refine(HI.out _ _ _ (HW.out.at HK.out)).mono ?_;intro e w1 hq
 rcases hq.split with ⟨h1,rfl,hg⟩|⟨x,r,h1,rfl,hk⟩
 ·have HG:=zH (aU (HW.out.grown HK.out) hg);have HN:=zH (HP.out.trans (aA.bf h1));clear hg h1 hq;go_wp2_with fail;exact⟨rfl,Rp.no HN.out HG.out⟩
 obtain⟨W1,HW1,dR⟩:=hk.join HW.out HK.out;replace HP:=zH (HP.out.trans (aA.aV h1));replace HW:=HW1;replace HK:=dR;clear HW1 dR h1 hk hq;simp only[List.append_nil] at HK;have hf1:=aax x.k x.n x.s;unfold Ii;exact Sv
theorem SN(n:Int):IntKind.u64.wrap n=(Val.us n:Int):=by
 rw[IntKind.wrap_u64];unfold Val.us;omega
theorem Qh(g:Nat)(l:aA.Its)(w:World)(h:uH g l w):Calls prog 149 #[.pointer (some ⟨g,0,none⟩)] w (Rp aA.bit (fun f=>.int .u64 (f:Int)) g l w):=by
 have HI:=zH jf;have HW:=zH (tq.start h);have HK:=zH (Kn.start w);have HP:=zH (show aA.bit l=aA.bnd aA.num (fun n=>aA.ret (Val.us n)) l from rfl);clear h;go_enter func149,ntmps149;go_wp2_with fail;refine(HI.out _ _ _ (HW.out.at HK.out)).mono ?_;intro e w1 hq
 rcases hq.split with ⟨h1,rfl,hg⟩|⟨x,r,h1,rfl,hk⟩
 ·have HG:=zH (aU (HW.out.grown HK.out) hg);have HN:=zH (HP.out.trans (aA.bf h1));clear hg h1 hq;go_wp2_with fail;exact⟨rfl,Rp.no HN.out HG.out⟩
 obtain⟨W1,HW1,dR⟩:=hk.join HW.out HK.out;replace HP:=zH (HP.out.trans (aA.aV h1));replace HW:=HW1;replace HK:=dR;clear HW1 dR h1 hk hq;simp only[List.append_nil] at HK;have hus:=SN x;exact Sv
theorem CW(g:Nat)(l:aA.Its)(w:World)(h:uH g l w):Calls prog 112 #[.pointer (some ⟨g,0,none⟩)] w (Rp aA.txt (fun s=>.string s) g l w):=by
 have HI:=zH (fun g l w (h:uH g l w)=>CZ g 1 l w h);have HW:=zH (tq.start h);have HK:=zH (Kn.start w);have HP:=zH (aA.YQ l);clear h;go_enter func112,ntmps112;go_wp2_with fail;refine(HI.out _ _ _ (HW.out.at HK.out)).mono ?_;intro e w1 hq
 rcases hq.split with ⟨h1,rfl,hg⟩|⟨x,r,h1,rfl,hk⟩
 ·have HG:=zH (aU (HW.out.grown HK.out) hg);have HN:=zH (HP.out.trans (aA.bf h1));clear hg h1 hq;go_wp2_with fail;exact⟨rfl,Rp.no HN.out HG.out⟩
 obtain⟨W1,HW1,dR⟩:=hk.join HW.out HK.out;replace HP:=zH (HP.out.trans (aA.aV h1));replace HW:=HW1;replace HK:=dR;clear HW1 dR h1 hk hq;simp only[List.append_nil] at HK;have hf1:=aaw x.k x.n x.s;unfold Ii;exact Sv
theorem Qa(g:Nat)(l:aA.Its)(w:World)(h:uH g l w):Calls prog 120 #[.pointer (some ⟨g,0,none⟩)] w (Rp aA.flag (fun b=>.bool b) g l w):=by
 have HI:=zH jf;have HW:=zH (tq.start h);have HK:=zH (Kn.start w);have HP:=zH (show aA.flag l=aA.bnd aA.num (fun n=>if n=0∨n=1 then aA.ret (decide (n=1)) else fun _=>none) l from rfl);clear h;go_enter func120,ntmps120;go_wp2_with fail;refine(HI.out _ _ _ (HW.out.at HK.out)).mono ?_;intro e w1 hq
 rcases hq.split with ⟨h1,rfl,hg⟩|⟨x,r,h1,rfl,hk⟩
 ·have HG:=zH (aU (HW.out.grown HK.out) hg);have HN:=zH (HP.out.trans (aA.bf h1));clear hg h1 hq;go_wp2_with fail;exact⟨rfl,Rp.no HN.out HG.out⟩
 obtain⟨W1,HW1,dR⟩:=hk.join HW.out HK.out;replace HP:=zH (HP.out.trans (aA.aV h1));replace HW:=HW1;replace HK:=dR;clear HW1 dR h1 hk hq;simp only[List.append_nil] at HK;by_cases h0:x=0
 ·subst h0
  replace HP:Hid (aA.flag l=some (false,r)):=HP;exact Sv
 by_cases h1:x=1
 ·subst h1
  replace HP:Hid (aA.flag l=some (true,r)):=HP;clear h0;exact Sv
 have HN:Hid (aA.flag l=none):=zH (by
  have e:=HP.out
  (try simp only at e)
  rw[if_neg (by omega)] at e
  exact e)
 have e0:(x != 0)=true:=by simpa using h0
 have e1:(x != 1)=true:=by simpa using h1
 clear HP h0 h1;go_wp2_with fail;exact Yw
theorem Aq(g:Nat)(l:aA.Its)(w:World)(h:uH g l w):Calls prog 116 #[.pointer (some ⟨g,0,none⟩)] w (Rp aA.val vv g l w):=by
 obtain⟨A,n,c,hb,hr,hl,hA,hc,hn⟩:=id h;have HW:=zH (tq.start h);have HK:=zH (Kn.start w);have hg:=hb.lt;have HG:Hid (∀W,Below w.heap.size w W→W.cell? ⟨g,0,none⟩=some (.slice A n c)):=zH fun W hW=>(hW.cell (p:=⟨g,0,none⟩) hg).trans (hb.cell 0)
 have HF:Hid (∀W,Below w.heap.size w W→Calls prog 148 #[.slice A n c,.int .i64 0] W (DY (Val.take l) 0 (0+(Val.items (Val.take l)).length) n (0<n∧Val.aX (Val.take l)=0∧0+(Val.items (Val.take l)).length≤n∧l.take (Val.items (Val.take l)).length=Val.items (Val.take l)) W)):=zH fun W hW=>
  Ka A c n 0 l W hl (Nat.zero_le _) hc (by omega) ((hr.keep fun p hp=>hW.cell (by omega)).more (by have:=hW.size;omega))
 by_cases hcc:0<n∧Val.aX (Val.take l)=0∧0+(Val.items (Val.take l)).length≤n∧l.take (Val.items (Val.take l)).length=Val.items (Val.take l)
 ·have HN:Hid (aA.val l=some (Val.take l,l.drop (Val.items (Val.take l)).length)):=zH (if_pos ⟨by omega,hcc.2.1,by have:=hcc.2.2.1;omega,hcc.2.2.2⟩)
  have hle:(Val.items (Val.take l)).length≤n:=by have:=hcc.2.2.1;omega
  obtain⟨b,o,rfl,hbg,hat⟩:=hr (by rw[hl];exact hcc.1);have HC:Hid (∀W,Below w.heap.size w W→aD.Reads W g (mE 3 (some ⟨b,o,none⟩) (Val.items (Val.take l)).length c) (l.drop (Val.items (Val.take l)).length)∧(l.drop (Val.items (Val.take l)).length).length=n-(Val.items (Val.take l)).length∧(mE 3 (some ⟨b,o,none⟩) (Val.items (Val.take l)).length c=none→l.drop (Val.items (Val.take l)).length=[])∧n-(Val.items (Val.take l)).length≤c-(Val.items (Val.take l)).length∧n-(Val.items (Val.take l)).length≤16384):=zH fun W hW=>Xd (hr.keep fun p hp=>hW.cell (by omega)) hl hc hn hle
  unfold DY at HF;have HCC:=zH hcc;clear h hr hl hA hb hat hcc;rw[Nat.zero_add] at HF;generalize hm:(Val.items (Val.take l)).length=m at *
  clear hm;generalize l.drop m=r at *
  generalize hv:Val.take l=v at *
  clear hv;go_enter func116,ntmps116;go_wp2_with (first|(refine aL HK ?_;clear HK;intro _ g1 HK;simp only[aS,aK] at HK)|refine zX (dQ (ad:=⟨g,0,none⟩) _ (HG.out _ HK.out.b) underlying53) ?_);refine(HF.out _ HK.out.b).mono ?_;rintro e w1 ⟨u,y,bb,rfl,f1,f2,f3,f4,b1⟩;obtain⟨rfl,rfl,rfl⟩:=f1 (by simpa using HCC.out);replace HK:=iH HK b1;clear f1 f2 f3 f4 b1 HF HCC;unfold vv;go_wp2_with (first|(refine aL HK ?_;clear HK;intro _ g2 HK;simp only[aS,aK] at HK)|(refine aH HK 1 ?_;clear HK;intro _ HK;simp only[lS] at HK)|refine zX (dQ (ad:=⟨g,0,none⟩) _ (HG.out _ HK.out.b) underlying53) ?_|refine zX (kT aD (A:=some ⟨b,o,none⟩) (lo:=y) _ _ hle) ?_|(refine zZ HW HK rfl rfl rfl rfl HC ?_;intro W1 _ HW' dz;replace HW:=HW';replace HK:=dz;clear HW' dz)|refine zX (aZ HK 1) ?_|(refine aH HK 0 ?_;clear HK;intro _ HK;simp only[lS] at HK));exact acZ results116 (HK.out.blk 0 rfl) (Rp.yes HN.out (yR.mk HW.out HK.out))
 ·have HN:Hid (aA.val l=none):=zH (if_neg fun q=>hcc ⟨by omega,q.2.1,by omega,q.2.2.2⟩)
  unfold DY at HF;have HCC:=zH hcc;clear h hr hl hA hb hcc;go_enter func116,ntmps116;go_wp2_with (first|(refine aL HK ?_;clear HK;intro _ g1 HK;simp only[aS,aK] at HK)|refine zX (dQ (ad:=⟨g,0,none⟩) _ (HG.out _ HK.out.b) underlying53) ?_);refine(HF.out _ HK.out.b).mono ?_;rintro e w1 ⟨u,y,bb,rfl,f1,f2,f3,f4,b1⟩;obtain rfl:=f2 HCC.out;replace HK:=iH HK b1;clear f1 f2 f3 f4 b1 HF HCC;unfold vv;go_wp2_with (first|(refine aL HK ?_;clear HK;intro _ g2 HK;simp only[aS,aK] at HK)|(refine aH HK 1 ?_;clear HK;intro _ HK;simp only[lS] at HK));exact Yw
theorem TP(g:Nat)(l:aA.Its)(w:World)(h:uH g l w):Calls prog 118 #[.pointer (some ⟨g,0,none⟩)] w (Rp aA.Qb (fun r=>rv r) g l w):=by
 have RV:=zH jf;have HW:=zH (tq.start h);have HK:=zH (Kn.start w);have HP:=zH (show aA.Qb l=(aA.bnd aA.num fun a=>aA.bnd aA.num fun b=>aA.bnd aA.num fun c=>aA.ret ⟨a,b,c⟩) l from rfl);clear h;go_enter func118,ntmps118;go_wp2_with (refine bR HK ?_;clear HK;intro _ g1 HK;simp only[aS,aK] at HK);refine(RV.out _ _ _ (HW.out.at HK.out)).mono ?_;intro e w1 hq
 rcases hq.split with ⟨h1,rfl,hg⟩|⟨a,r1,h1,rfl,hk⟩
 ·have HG:=zH (aU (HW.out.grown HK.out) hg);have HN:=zH (HP.out.trans (aA.bf h1));clear hg h1 hq;go_wp2_with fail;exact⟨rfl,Rp.no HN.out HG.out⟩
 obtain⟨W1,HW1,dR⟩:=hk.join HW.out HK.out;replace HP:=zH (HP.out.trans (aA.aV h1));replace HW:=HW1;replace HK:=dR;clear HW1 dR h1 hk hq;simp only[List.append_nil] at HK;go_wp2_with fail;refine(RV.out _ _ _ (HW.out.at HK.out)).mono ?_;intro e w1 hq
 rcases hq.split with ⟨h1,rfl,hg⟩|⟨b,r2,h1,rfl,hk⟩
 ·have HG:=zH (aU (HW.out.grown HK.out) hg);have HN:=zH (HP.out.trans (aA.bf h1));clear hg h1 hq;go_wp2_with fail;exact⟨rfl,Rp.no HN.out HG.out⟩
 obtain⟨W1,HW1,dR⟩:=hk.join HW.out HK.out;replace HP:=zH (HP.out.trans (aA.aV h1));replace HW:=HW1;replace HK:=dR;clear HW1 dR h1 hk hq;simp only[List.append_nil] at HK;go_wp2_with fail;refine(RV.out _ _ _ (HW.out.at HK.out)).mono ?_;intro e w1 hq
 rcases hq.split with ⟨h1,rfl,hg⟩|⟨c,r3,h1,rfl,hk⟩
 ·have HG:=zH (aU (HW.out.grown HK.out) hg);have HN:=zH (HP.out.trans (aA.bf h1));clear hg h1 hq;go_wp2_with fail;exact⟨rfl,Rp.no HN.out HG.out⟩
 obtain⟨W1,HW1,dR⟩:=hk.join HW.out HK.out;replace HP:=zH (HP.out.trans (aA.aV h1));replace HW:=HW1;replace HK:=dR;clear HW1 dR h1 hk hq;simp only[List.append_nil] at HK;go_wp2_with (refine bW HK 0 ?_;clear HK;intro _ HK;simp only[lS] at HK);exact aij results118 rfl rfl (HK.out.blk 0 rfl) (Rp.yes (x:=(⟨a,b,c⟩:Rf)) HP.out (yR.mk HW.out HK.out))
theorem Zm(g:Nat)(l:aA.Its)(w:World)(h:uH g l w):Calls prog 119 #[.pointer (some ⟨g,0,none⟩)] w (Rp aA.mtP (fun m=>.agg #[.int .i64 m.n,.int .u64 (m.s:Int),.int .u64 (m.l:Int),.int .u64 (m.m:Int)]) g l w):=by
 have RV:=zH jf;have HB_:=zH Qh;have HW:=zH (tq.start h);have HK:=zH (Kn.start w);have HP:=zH (show aA.mtP l=(aA.bnd aA.num fun a=>aA.bnd aA.bit fun b=>aA.bnd aA.bit fun c=>aA.bnd aA.bit fun d=>aA.ret ⟨a,b,c,d⟩) l from rfl);clear h;go_enter func119,ntmps119;go_wp2_with (refine JV HK rfl rfl ?_;clear HK;intro _ g1 HK;simp only[aS,aK] at HK);refine(RV.out _ _ _ (HW.out.at HK.out)).mono ?_;intro e w1 hq
 rcases hq.split with ⟨h1,rfl,hg⟩|⟨a,r1,h1,rfl,hk⟩
 ·have HG:=zH (aU (HW.out.grown HK.out) hg);have HN:=zH (HP.out.trans (aA.bf h1));clear hg h1 hq;go_wp2_with fail;exact⟨rfl,Rp.no HN.out HG.out⟩
 obtain⟨W1,HW1,dR⟩:=hk.join HW.out HK.out;replace HP:=zH (HP.out.trans (aA.aV h1));replace HW:=HW1;replace HK:=dR;clear HW1 dR h1 hk hq;simp only[List.append_nil] at HK;go_wp2_with fail;refine(HB_.out _ _ _ (HW.out.at HK.out)).mono ?_;intro e w1 hq
 rcases hq.split with ⟨h1,rfl,hg⟩|⟨b,r2,h1,rfl,hk⟩
 ·have HG:=zH (aU (HW.out.grown HK.out) hg);have HN:=zH (HP.out.trans (aA.bf h1));clear hg h1 hq;go_wp2_with fail;exact⟨rfl,Rp.no HN.out HG.out⟩
 obtain⟨W1,HW1,dR⟩:=hk.join HW.out HK.out;replace HP:=zH (HP.out.trans (aA.aV h1));replace HW:=HW1;replace HK:=dR;clear HW1 dR h1 hk hq;simp only[List.append_nil] at HK;go_wp2_with fail;refine(HB_.out _ _ _ (HW.out.at HK.out)).mono ?_;intro e w1 hq
 rcases hq.split with ⟨h1,rfl,hg⟩|⟨c,r3,h1,rfl,hk⟩
 ·have HG:=zH (aU (HW.out.grown HK.out) hg);have HN:=zH (HP.out.trans (aA.bf h1));clear hg h1 hq;go_wp2_with fail;exact⟨rfl,Rp.no HN.out HG.out⟩
 obtain⟨W1,HW1,dR⟩:=hk.join HW.out HK.out;replace HP:=zH (HP.out.trans (aA.aV h1));replace HW:=HW1;replace HK:=dR;clear HW1 dR h1 hk hq;simp only[List.append_nil] at HK;go_wp2_with fail;refine(HB_.out _ _ _ (HW.out.at HK.out)).mono ?_;intro e w1 hq
 rcases hq.split with ⟨h1,rfl,hg⟩|⟨d,r4,h1,rfl,hk⟩
 ·have HG:=zH (aU (HW.out.grown HK.out) hg);have HN:=zH (HP.out.trans (aA.bf h1));clear hg h1 hq;go_wp2_with fail;exact⟨rfl,Rp.no HN.out HG.out⟩
 obtain⟨W1,HW1,dR⟩:=hk.join HW.out HK.out;replace HP:=zH (HP.out.trans (aA.aV h1));replace HW:=HW1;replace HK:=dR;clear HW1 dR h1 hk hq;simp only[List.append_nil] at HK;go_wp2_with (refine nZ HK 0 ?_;clear HK;intro _ HK;simp only[lS] at HK);exact Us results119 (HK.out.blk 0 rfl) underlying73 tV (Rp.yes (x:=(⟨a,b,c,d⟩:kC)) HP.out (yR.mk HW.out HK.out))
theorem Zl(g:Nat)(l:aA.Its)(w:World)(h:uH g l w):Calls prog 114 #[.pointer (some ⟨g,0,none⟩)] w (Rp aA.Nw (fun p=>.agg (vS p)) g l w):=by
 have HT:=zH CW;have HV:=zH Aq;have HW:=zH (tq.start h);have HK:=zH (Kn.start w);have HP:=zH (show aA.Nw l=(aA.bnd aA.txt fun k=>aA.bnd aA.val fun v=>aA.ret ⟨k,v⟩) l from rfl);clear h;go_enter func114,ntmps114;go_wp2_with (refine Ac HK rfl rfl ?_;clear HK;intro _ g1 HK;simp only[aK] at HK);refine(HT.out _ _ _ (HW.out.at HK.out)).mono ?_;intro e w1 hq
 rcases hq.split with ⟨h1,rfl,hg⟩|⟨k,r1,h1,rfl,hk⟩
 ·have HG:=zH (aU (HW.out.grown HK.out) hg);have HN:=zH (HP.out.trans (aA.bf h1));clear hg h1 hq;go_wp2_with fail;exact⟨rfl,Rp.no HN.out HG.out⟩
 obtain⟨W1,HW1,dR⟩:=hk.join HW.out HK.out;replace HP:=zH (HP.out.trans (aA.aV h1));replace HW:=HW1;replace HK:=dR;clear HW1 dR h1 hk hq;simp only[List.append_nil] at HK;go_wp2_with fail;refine(HV.out _ _ _ (HW.out.at HK.out)).mono ?_;intro e w1 hq
 rcases hq.split with ⟨h1,rfl,hg⟩|⟨v,r2,h1,rfl,hk⟩
 ·have HG:=zH (aU (HW.out.grown HK.out) hg);have HN:=zH (HP.out.trans (aA.bf h1));clear hg h1 hq;go_wp2_with fail;exact⟨rfl,Rp.no HN.out HG.out⟩
 obtain⟨W1,HW1,dR⟩:=hk.join HW.out HK.out;replace HP:=zH (HP.out.trans (aA.aV h1));replace HW:=HW1;replace HK:=dR;clear HW1 dR h1 hk hq;simp only[List.append_nil] at HK;unfold vv;go_wp2_with (refine CF (p1:=⟨⟨#[]⟩,⟨0,0,0,⟨#[]⟩⟩⟩) (p2:=⟨k,v⟩) HK 0 rfl rfl rfl rfl rfl ?_;clear HK;intro _ HK;simp only[lS] at HK);exact Us results114 (HK.out.blk 0 rfl) underlying124 Fe (Rp.yes (x:=(⟨k,v⟩:aQ.Pr)) HP.out (yR.mk HW.out HK.out))
theorem Zk(g:Nat)(l:aA.Its)(w:World)(h:uH g l w):Calls prog 79 #[.pointer (some ⟨g,0,none⟩)] w (Rp aA.Kt (fun s=>.agg (fK s)) g l w):=by
 have HF:=zH Qa;have RV:=zH jf;have HV:=zH Aq;have HW:=zH (tq.start h);have HK:=zH (Kn.start w);have HP:=zH (show aA.Kt l=(aA.bnd aA.flag fun a=>aA.bnd aA.num fun b=>aA.bnd aA.num fun c=>aA.bnd aA.flag fun d=>aA.bnd aA.num fun e=>aA.bnd aA.val fun v=>aA.ret ⟨a,b,c,d,⟨e,v⟩⟩) l from rfl);clear h;go_enter func79,ntmps79;go_wp2_with (refine bE HK ?_;clear HK;intro _ g1 HK;simp only[aK] at HK);refine(HF.out _ _ _ (HW.out.at HK.out)).mono ?_;intro e w1 hq
 rcases hq.split with ⟨h1,rfl,hg⟩|⟨a,r1,h1,rfl,hk⟩
 ·have HG:=zH (aU (HW.out.grown HK.out) hg);have HN:=zH (HP.out.trans (aA.bf h1));clear hg h1 hq;go_wp2_with fail;exact⟨rfl,Rp.no HN.out HG.out⟩
 obtain⟨W1,HW1,dR⟩:=hk.join HW.out HK.out;replace HP:=zH (HP.out.trans (aA.aV h1));replace HW:=HW1;replace HK:=dR;clear HW1 dR h1 hk hq;simp only[List.append_nil] at HK;go_wp2_with fail;refine(RV.out _ _ _ (HW.out.at HK.out)).mono ?_;intro e w1 hq
 rcases hq.split with ⟨h1,rfl,hg⟩|⟨b,r2,h1,rfl,hk⟩
 ·have HG:=zH (aU (HW.out.grown HK.out) hg);have HN:=zH (HP.out.trans (aA.bf h1));clear hg h1 hq;go_wp2_with fail;exact⟨rfl,Rp.no HN.out HG.out⟩
 obtain⟨W1,HW1,dR⟩:=hk.join HW.out HK.out;replace HP:=zH (HP.out.trans (aA.aV h1));replace HW:=HW1;replace HK:=dR;clear HW1 dR h1 hk hq;simp only[List.append_nil] at HK;go_wp2_with fail;refine(RV.out _ _ _ (HW.out.at HK.out)).mono ?_;intro e w1 hq
 rcases hq.split with ⟨h1,rfl,hg⟩|⟨c,r3,h1,rfl,hk⟩
 ·have HG:=zH (aU (HW.out.grown HK.out) hg);have HN:=zH (HP.out.trans (aA.bf h1));clear hg h1 hq;go_wp2_with fail;exact⟨rfl,Rp.no HN.out HG.out⟩
 obtain⟨W1,HW1,dR⟩:=hk.join HW.out HK.out;replace HP:=zH (HP.out.trans (aA.aV h1));replace HW:=HW1;replace HK:=dR;clear HW1 dR h1 hk hq;simp only[List.append_nil] at HK;go_wp2_with fail;refine(HF.out _ _ _ (HW.out.at HK.out)).mono ?_;intro e w1 hq
 rcases hq.split with ⟨h1,rfl,hg⟩|⟨d,r4,h1,rfl,hk⟩
 ·have HG:=zH (aU (HW.out.grown HK.out) hg);have HN:=zH (HP.out.trans (aA.bf h1));clear hg h1 hq;go_wp2_with fail;exact⟨rfl,Rp.no HN.out HG.out⟩
 obtain⟨W1,HW1,dR⟩:=hk.join HW.out HK.out;replace HP:=zH (HP.out.trans (aA.aV h1));replace HW:=HW1;replace HK:=dR;clear HW1 dR h1 hk hq;simp only[List.append_nil] at HK;go_wp2_with fail;refine(RV.out _ _ _ (HW.out.at HK.out)).mono ?_;intro e w1 hq
 rcases hq.split with ⟨h1,rfl,hg⟩|⟨x,r5,h1,rfl,hk⟩
 ·have HG:=zH (aU (HW.out.grown HK.out) hg);have HN:=zH (HP.out.trans (aA.bf h1));clear hg h1 hq;go_wp2_with fail;exact⟨rfl,Rp.no HN.out HG.out⟩
 obtain⟨W1,HW1,dR⟩:=hk.join HW.out HK.out;replace HP:=zH (HP.out.trans (aA.aV h1));replace HW:=HW1;replace HK:=dR;clear HW1 dR h1 hk hq;simp only[List.append_nil] at HK;go_wp2_with fail;refine(HV.out _ _ _ (HW.out.at HK.out)).mono ?_;intro e w1 hq
 rcases hq.split with ⟨h1,rfl,hg⟩|⟨v,r6,h1,rfl,hk⟩
 ·have HG:=zH (aU (HW.out.grown HK.out) hg);have HN:=zH (HP.out.trans (aA.bf h1));clear hg h1 hq;go_wp2_with fail;exact⟨rfl,Rp.no HN.out HG.out⟩
 obtain⟨W1,HW1,dR⟩:=hk.join HW.out HK.out;replace HP:=zH (HP.out.trans (aA.aV h1));replace HW:=HW1;replace HK:=dR;clear HW1 dR h1 hk hq;simp only[List.append_nil] at HK;unfold vv;go_wp2_with (refine bD (u:=⟨a,b,c,d,⟨x,v⟩⟩) HK 0 ?_;clear HK;intro _ HK;simp only[lS] at HK);exact aeI results79 rfl rfl (HK.out.blk 0 rfl) (Rp.yes (x:=(⟨a,b,c,d,⟨x,v⟩⟩:aG.S)) HP.out (yR.mk HW.out HK.out))
end
section
namespace aA
def Cz{α:Type}(p:P α):Prop:=∀l x r,p l=some (x,r)→r.length<l.length
def yC{α:Type}(p:P α):Prop:=∀l x r,p l=some (x,r)→r.length≤l.length
theorem Cz.cuts{α:Type}{p:P α}(h:Cz p):yC p:=fun l x r e=>Nat.le_of_lt (h l x r e)
theorem mK{α:Type}{a:α}:yC (ret a):=fun l x r e=>by
 obtain⟨_,rfl⟩:=iE e;exact Nat.le_refl _
theorem QD{α:Type}:yC (fun _=>none:P α):=fun l x r e=>by cases e
theorem BX{α β:Type}{p:P α}{f:α→P β}(hp:Cz p)(hf:∀a,yC (f a)):Cz (bnd p f):=fun l x r e=>by
 obtain⟨a,q,h1,h2⟩:=bC e;exact Nat.lt_of_le_of_lt (hf a q x r h2) (hp l a q h1)
theorem eB{α β:Type}{p:P α}{f:α→P β}(hp:yC p)(hf:∀a,yC (f a)):yC (bnd p f):=fun l x r e=>by
 obtain⟨a,q,h1,h2⟩:=bC e;exact Nat.le_trans (hf a q x r h2) (hp l a q h1)
theorem jY:Cz num:=fun l x r h=>by
 match l,h with
 | y::t,h=>
  have h:(if y.k=0 then some (y.n,t) else none)=some (x,r):=h
  split at h
  ·cases h;exact Nat.lt_succ_self _
  ·cases h
theorem Gf:Cz txt:=fun l x r h=>by
 match l,h with
 | y::t,h=>
  have h:(if y.k=1 then some (y.s,t) else none)=some (x,r):=h
  split at h
  ·cases h;exact Nat.lt_succ_self _
  ·cases h
theorem Ah:Cz val:=fun l x r h=>by
 unfold val at h
 split at h
 ·next g=>
  cases h;rw[List.length_drop];have h1:0<(Val.items (Val.take l)).length:=by unfold Val.items;simp
  omega
 ·cases h
theorem GV:Cz Nw:=BX Gf fun _=>eB Ah.cuts fun _=>mK
theorem Gx:Cz Qb:=BX jY fun _=>eB jY.cuts fun _=>eB jY.cuts fun _=>mK
theorem BZ:yC bit:=eB jY.cuts fun _=>mK
theorem Vl:yC mtP:=eB jY.cuts fun _=>eB BZ fun _=>eB BZ fun _=>eB BZ fun _=>mK
theorem GA{α:Type}{p:P α}(hp:yC p):∀n,yC (rep p n)
 | 0=>mK
 | n+1=>eB hp fun _=>eB (GA hp n) fun _=>mK
theorem Bc{α:Type}{c:Bool}{m:Int}{p:P α}(hp:yC p):yC (uE c m p):=eB jY.cuts fun n=>by
 split
 ·exact QD
 ·exact GA hp _
theorem Vh(c:Bool):Cz (ND c):=BX Gf fun _=>eB jY.cuts fun _=>eB jY.cuts fun _=>eB jY.cuts fun _=>eB (Bc GV.cuts) fun _=>eB (Bc Ah.cuts) fun _=>eB (Bc Gx.cuts) fun _=>eB Vl fun _=>mK
theorem abI{α:Type}(q:P (List α))(l:Its):bnd q (fun ys=>ret ([]++ys)) l=q l:=by
 unfold bnd
 cases h:q l with
 | none=>rfl
 | some z=>rfl
theorem vL{α:Type}(p:P α)(m:Nat)(xs:List α)(l:Its):bnd (rep p (m+1)) (fun ys=>ret (xs++ys)) l=bnd p (fun x=>bnd (rep p m) (fun ys=>ret ((xs++[x])++ys))) l:=by
 show bnd (bnd p fun x=>bnd (rep p m) fun l=>ret (x::l)) (fun ys=>ret (xs++ys)) l=_
 cases h:p l with
 | none=>unfold bnd;simp only[h]
 | some z=>
  obtain⟨x,r⟩:=z
  cases h2:rep p m r with
  | none=>unfold bnd;simp only[h,h2]
  | some z2=>
   obtain⟨ys,r2⟩:=z2;unfold bnd;simp only[h,h2,ret];simp
theorem vM{α:Type}(p:P α)(xs:List α)(l:Its):bnd (rep p 0) (fun ys=>ret (xs++ys)) l=some (xs,l):=by
 show some (xs++[],l)=_
 rw[List.append_nil]
theorem zD{α:Type}{c:Bool}{m n:Int}{p:P α}{l r:Its}(h:uE c m p l=(fun n=>if n<0∨(c=true∧m<n) then fun _=>none else rep p n.toNat) n r)(hn:n<0):uE c m p l=none:=by
 rw[h]
 show(if n<0∨(c=true∧m<n) then fun _=>none else rep p n.toNat) r=none
 rw[if_pos (.inl hn)]
theorem zC{α:Type}{m:Int}{N:Nat}{p:P α}{l r:Its}(h:uE false m p l=(fun n=>if n<0∨(false=true∧m<n) then fun _=>none else rep p n.toNat) (N:Int) r):uE false m p l=bnd (rep p (N-0)) (fun ys=>ret ([]++ys)) r:=by
 rw[h,abI]
 show(if (N:Int)<0∨(false=true∧m<N) then fun _=>none else rep p (N:Int).toNat) r=_
 rw[if_neg (fun q=>q.elim (fun q=>by omega) fun q=>by cases q.1)]
 rfl
end aA
end
section
def DW{P:Program}{α:Type}(La:Lay P α)(p:aA.P (List α))(g:Nat)(l:aA.Its)(w:World)(e:Ending)(w':World):Prop:=match p l with
 | some (xs,r)=>∃A n c,e=.returned (.slice A n c)∧yR g r [row La (.slice A n c) xs] w w'
 | none=>Rno g w e w'
section
variable {P:Program}{α:Type}{La:Lay P α}{p:aA.P (List α)}{g:Nat}{l r:aA.Its}{w w':World}{e:Ending}{xs:List α}
theorem DW.split(h:DW La p g l w e w'):(p l=none∧e=.panicked [{ v:=.iface 23 (.int .i64 3),recovered:=false }]∧w.grownBy w' (some g))∨∃xs r A n c,p l=some (xs,r)∧e=.returned (.slice A n c)∧yR g r [row La (.slice A n c) xs] w w':=by
 unfold DW at h
 split at h
 ·next x r hp=>
  obtain⟨A,n,c,h1,h2⟩:=h;exact .inr ⟨x,r,A,n,c,hp,h1,h2⟩
 ·next hp=>exact .inl ⟨hp,h⟩
theorem DW.yes{A:Option Addr}{n c:Nat}(hp:p l=some (xs,r))(h:yR g r [row La (.slice A n c) xs] w w'):DW La p g l w (.returned (.slice A n c)) w':=by
 unfold DW;rw[hp];exact⟨A,n,c,rfl,h⟩
theorem DW.no(hp:p l=none)(h:w.grownBy w' (some g)):DW La p g l w (.panicked [{ v:=.iface 23 (.int .i64 3),recovered:=false }]) w':=by
 unfold DW;rw[hp];exact⟨rfl,h⟩
end
theorem uH.short{g:Nat}{l:aA.Its}{w:World}(h:uH g l w):l.length≤16384:=by
 obtain⟨A,n,c,_,_,hl,_,_,hn⟩:=h;omega
theorem EA(g:Nat)(l:aA.Its)(w:World)(h:uH g l w):Calls prog 113 #[.pointer (some ⟨g,0,none⟩),.func (.func 114) #[.pointer (some ⟨g,0,none⟩)] #[]] w (DW bY (aA.uE false 8 aA.Nw) g l w):=by
 have HI:=zH jf;have HC:=zH Zl;have HW:=zH (tq.start h);have HK:=zH (Kn.start w);have HP:=zH (show aA.uE false 8 aA.Nw l=aA.bnd aA.num (fun n=>if n<0∨(false=true∧8<n) then fun _=>none else aA.rep aA.Nw n.toNat) l from rfl);clear h;go_enter func113,ntmps113;go_wp2_with fail;refine(HI.out _ _ _ (HW.out.at HK.out)).mono ?_;intro e w1 hq
 rcases hq.split with ⟨h1,rfl,hg⟩|⟨n,r0,h1,rfl,hk⟩
 ·have HG:=zH (aU (HW.out.grown HK.out) hg);have HN:=zH (HP.out.trans (aA.bf h1));clear hg h1 hq;go_wp2_with fail;exact⟨rfl,DW.no HN.out HG.out⟩
 obtain⟨W1,HW1,dR⟩:=hk.join HW.out HK.out;replace HP:=zH (HP.out.trans (aA.aV h1));replace HW:=HW1;replace HK:=dR;clear HW1 dR h1 hk hq;simp only[List.append_nil] at HK;by_cases hneg:n<0
 ·have HN:=zH (aA.zD HP.out hneg)
  exact adU
 obtain⟨N,rfl⟩:=Int.eq_ofNat_of_zero_le (show 0≤n by omega);replace HP:=zH (aA.zC HP.out);have HS:=zH HW.out.2.short;clear hneg;have hneg:¬((N:Int)<0):=by omega
 go_wp2_with (refine kM bY HK ?_;clear HK;intro _ g2 HK;simp only[aK] at HK);clear hneg;go_loopw [6,14] (fun vl vi wr=>∃(j:Nat) (A1:Option Addr) (c1:Nat) (xs:List aQ.Pr) (rc:aA.Its) (W1:World),j≤N∧j≤16384∧vl=.slice A1 j c1∧vi=.int .i64 j∧Hid (xs.length=j)∧Hid (j+rc.length≤16384)∧Hid (aA.uE false 8 aA.Nw l=aA.bnd (aA.rep aA.Nw (N-j)) (fun ys=>aA.ret (xs++ys)) rc)∧Hid (tq g w W1 rc)∧Hid (Kn w.heap.size W1 wr [] [row bY (.slice A1 j c1) xs])) (fun _ vi _=>N-(intOf vi).toNat)
 case atStart=>exact⟨0,_,0,[],r0,_,Nat.zero_le _,Nat.zero_le _,rfl,rfl,zH rfl,zH (by have:=HS.out;omega),HP,HW,HK⟩
 case round=>
  clear HK HW HP HS;obtain⟨j,A1,c1,xs,rc,W2,hj,hjb,rfl,rfl,XV,HRc,HP,HW,HK⟩:=hrel;by_cases hlt:j<N
  ·have HL2:Hid (xs.length+1≤9223372036854775807∧(xs.length+1)*bY.bytes≤211106232532992):=zH (by
    rw[XV.out];refine⟨by omega,?_⟩
    show(j+1)*56≤_
    omega)
   have fP:Hid (∀y:aQ.Pr,(xs++[y]).length=j+1):=zH fun y=>by rw[List.length_append,XV.out];rfl
   obtain⟨m,hm⟩:∃m,N-j=m+1:=⟨N-j-1,by omega⟩;have HM:Hid (m=N-(j+1)):=zH (by omega);rw[hm,aA.vL] at HP;clear hm;have hk2:(j:Int)<(N:Int):=by omega
   go_wp2_with fail;refine(HC.out _ _ _ (HW.out.at HK.out)).mono ?_;intro e w2 hq
   rcases hq.split with ⟨h1,rfl,hg⟩|⟨x,r1,h1,rfl,hk⟩
   ·have HG:=zH (aU (HW.out.grown HK.out) hg);have HN:=zH (HP.out.trans (aA.bf h1));clear hg h1 hq;go_wp2_with fail;exact⟨rfl,DW.no HN.out HG.out⟩
   have HE:=zH (aA.GV _ _ _ h1);obtain⟨W1,HW1,dR⟩:=hk.join HW.out HK.out;replace HP:=zH (HP.out.trans (aA.aV h1));replace HW:=HW1;replace HK:=dR;clear HW1 dR h1 hk hq;simp only[List.append_nil] at HK;unfold vS Yj;go_wp2_with (first|(refine dM bY (p:=x) HK ?_;intro _ g5 dz;simp only[aS,aK] at dz;have HR:=zH (dz.out.own 1 rfl).rd;replace HK:=dz;clear dz)|(at_builtin;refine bA HK bY 0 [x] rfl HR HL2 (N:=j+1) (zH (fP.out x)) ?_;intro A7 c7 _ dz;simp only[lS] at dz;replace HK:=zH (dz.out.ay 1);simp only[List.take] at HK;clear dz HR));exact aej
  ·obtain rfl:j=N:=by omega
   have HN:Hid (aA.uE false 8 aA.Nw l=some (xs,rc)):=zH (by
    have e:=HP.out;rw[Nat.sub_self,aA.vM] at e
    exact e)
   exact adV
theorem Ey(g:Nat)(l:aA.Its)(w:World)(h:uH g l w):Calls prog 115 #[.pointer (some ⟨g,0,none⟩),.func (.func 116) #[.pointer (some ⟨g,0,none⟩)] #[]] w (DW bG (aA.uE false 8 aA.val) g l w):=by
 have HI:=zH jf;have HC:=zH Aq;have HW:=zH (tq.start h);have HK:=zH (Kn.start w);have HP:=zH (show aA.uE false 8 aA.val l=aA.bnd aA.num (fun n=>if n<0∨(false=true∧8<n) then fun _=>none else aA.rep aA.val n.toNat) l from rfl);clear h;go_enter func115,ntmps115;go_wp2_with fail;refine(HI.out _ _ _ (HW.out.at HK.out)).mono ?_;intro e w1 hq
 rcases hq.split with ⟨h1,rfl,hg⟩|⟨n,r0,h1,rfl,hk⟩
 ·have HG:=zH (aU (HW.out.grown HK.out) hg);have HN:=zH (HP.out.trans (aA.bf h1));clear hg h1 hq;go_wp2_with fail;exact⟨rfl,DW.no HN.out HG.out⟩
 obtain⟨W1,HW1,dR⟩:=hk.join HW.out HK.out;replace HP:=zH (HP.out.trans (aA.aV h1));replace HW:=HW1;replace HK:=dR;clear HW1 dR h1 hk hq;simp only[List.append_nil] at HK;by_cases hneg:n<0
 ·have HN:=zH (aA.zD HP.out hneg)
  exact adU
 obtain⟨N,rfl⟩:=Int.eq_ofNat_of_zero_le (show 0≤n by omega);replace HP:=zH (aA.zC HP.out);have HS:=zH HW.out.2.short;clear hneg;have hneg:¬((N:Int)<0):=by omega
 go_wp2_with (refine kM bG HK ?_;clear HK;intro _ g2 HK;simp only[aK] at HK);clear hneg;go_loopw [6,14] (fun vl vi wr=>∃(j:Nat) (A1:Option Addr) (c1:Nat) (xs:List Val.V) (rc:aA.Its) (W1:World),j≤N∧j≤16384∧vl=.slice A1 j c1∧vi=.int .i64 j∧Hid (xs.length=j)∧Hid (j+rc.length≤16384)∧Hid (aA.uE false 8 aA.val l=aA.bnd (aA.rep aA.val (N-j)) (fun ys=>aA.ret (xs++ys)) rc)∧Hid (tq g w W1 rc)∧Hid (Kn w.heap.size W1 wr [] [row bG (.slice A1 j c1) xs])) (fun _ vi _=>N-(intOf vi).toNat)
 case atStart=>exact⟨0,_,0,[],r0,_,Nat.zero_le _,Nat.zero_le _,rfl,rfl,zH rfl,zH (by have:=HS.out;omega),HP,HW,HK⟩
 case round=>
  clear HK HW HP HS;obtain⟨j,A1,c1,xs,rc,W2,hj,hjb,rfl,rfl,XV,HRc,HP,HW,HK⟩:=hrel;by_cases hlt:j<N
  ·have HL2:Hid (xs.length+1≤9223372036854775807∧(xs.length+1)*bG.bytes≤211106232532992):=zH (by
    rw[XV.out];refine⟨by omega,?_⟩
    show(j+1)*40≤_
    omega)
   have fP:Hid (∀y:Val.V,(xs++[y]).length=j+1):=zH fun y=>by rw[List.length_append,XV.out];rfl
   obtain⟨m,hm⟩:∃m,N-j=m+1:=⟨N-j-1,by omega⟩;have HM:Hid (m=N-(j+1)):=zH (by omega);rw[hm,aA.vL] at HP;clear hm;have hk2:(j:Int)<(N:Int):=by omega
   go_wp2_with fail;refine(HC.out _ _ _ (HW.out.at HK.out)).mono ?_;intro e w2 hq
   rcases hq.split with ⟨h1,rfl,hg⟩|⟨x,r1,h1,rfl,hk⟩
   ·have HG:=zH (aU (HW.out.grown HK.out) hg);have HN:=zH (HP.out.trans (aA.bf h1));clear hg h1 hq;go_wp2_with fail;exact⟨rfl,DW.no HN.out HG.out⟩
   have HE:=zH (aA.Ah _ _ _ h1);obtain⟨W1,HW1,dR⟩:=hk.join HW.out HK.out;replace HP:=zH (HP.out.trans (aA.aV h1));replace HW:=HW1;replace HK:=dR;clear HW1 dR h1 hk hq;simp only[List.append_nil] at HK;unfold vv;go_wp2_with (first|(refine dM bG (p:=x) HK ?_;intro _ g5 dz;simp only[aS,aK] at dz;have HR:=zH (dz.out.own 1 rfl).rd;replace HK:=dz;clear dz)|(at_builtin;refine bA HK bG 0 [x] rfl HR HL2 (N:=j+1) (zH (fP.out x)) ?_;intro A7 c7 _ dz;simp only[lS] at dz;replace HK:=zH (dz.out.ay 1);simp only[List.take] at HK;clear dz HR));exact aej
  ·obtain rfl:j=N:=by omega
   have HN:Hid (aA.uE false 8 aA.val l=some (xs,rc)):=zH (by
    have e:=HP.out;rw[Nat.sub_self,aA.vM] at e
    exact e)
   exact adV
theorem Ez(g:Nat)(l:aA.Its)(w:World)(h:uH g l w):Calls prog 117 #[.pointer (some ⟨g,0,none⟩),.func (.func 118) #[.pointer (some ⟨g,0,none⟩)] #[]] w (DW aN (aA.uE false 5 aA.Qb) g l w):=by
 have HI:=zH jf;have HC:=zH TP;have HW:=zH (tq.start h);have HK:=zH (Kn.start w);have HP:=zH (show aA.uE false 5 aA.Qb l=aA.bnd aA.num (fun n=>if n<0∨(false=true∧5<n) then fun _=>none else aA.rep aA.Qb n.toNat) l from rfl);clear h;go_enter func117,ntmps117;go_wp2_with fail;refine(HI.out _ _ _ (HW.out.at HK.out)).mono ?_;intro e w1 hq
 rcases hq.split with ⟨h1,rfl,hg⟩|⟨n,r0,h1,rfl,hk⟩
 ·have HG:=zH (aU (HW.out.grown HK.out) hg);have HN:=zH (HP.out.trans (aA.bf h1));clear hg h1 hq;go_wp2_with fail;exact⟨rfl,DW.no HN.out HG.out⟩
 obtain⟨W1,HW1,dR⟩:=hk.join HW.out HK.out;replace HP:=zH (HP.out.trans (aA.aV h1));replace HW:=HW1;replace HK:=dR;clear HW1 dR h1 hk hq;simp only[List.append_nil] at HK;by_cases hneg:n<0
 ·have HN:=zH (aA.zD HP.out hneg)
  exact adU
 obtain⟨N,rfl⟩:=Int.eq_ofNat_of_zero_le (show 0≤n by omega);replace HP:=zH (aA.zC HP.out);have HS:=zH HW.out.2.short;clear hneg;have hneg:¬((N:Int)<0):=by omega
 go_wp2_with (refine kM aN HK ?_;clear HK;intro _ g2 HK;simp only[aK] at HK);clear hneg;go_loopw [6,14] (fun vl vi wr=>∃(j:Nat) (A1:Option Addr) (c1:Nat) (xs:List Rf) (rc:aA.Its) (W1:World),j≤N∧j≤16384∧vl=.slice A1 j c1∧vi=.int .i64 j∧Hid (xs.length=j)∧Hid (j+rc.length≤16384)∧Hid (aA.uE false 5 aA.Qb l=aA.bnd (aA.rep aA.Qb (N-j)) (fun ys=>aA.ret (xs++ys)) rc)∧Hid (tq g w W1 rc)∧Hid (Kn w.heap.size W1 wr [] [row aN (.slice A1 j c1) xs])) (fun _ vi _=>N-(intOf vi).toNat)
 case atStart=>exact⟨0,_,0,[],r0,_,Nat.zero_le _,Nat.zero_le _,rfl,rfl,zH rfl,zH (by have:=HS.out;omega),HP,HW,HK⟩
 case round=>
  clear HK HW HP HS;obtain⟨j,A1,c1,xs,rc,W2,hj,hjb,rfl,rfl,XV,HRc,HP,HW,HK⟩:=hrel;by_cases hlt:j<N
  ·have HL2:Hid (xs.length+1≤9223372036854775807∧(xs.length+1)*aN.bytes≤211106232532992):=zH (by
    rw[XV.out];refine⟨by omega,?_⟩
    show(j+1)*24≤_
    omega)
   have fP:Hid (∀y:Rf,(xs++[y]).length=j+1):=zH fun y=>by rw[List.length_append,XV.out];rfl
   obtain⟨m,hm⟩:∃m,N-j=m+1:=⟨N-j-1,by omega⟩;have HM:Hid (m=N-(j+1)):=zH (by omega);rw[hm,aA.vL] at HP;clear hm;have hk2:(j:Int)<(N:Int):=by omega
   go_wp2_with fail;refine(HC.out _ _ _ (HW.out.at HK.out)).mono ?_;intro e w2 hq
   rcases hq.split with ⟨h1,rfl,hg⟩|⟨x,r1,h1,rfl,hk⟩
   ·have HG:=zH (aU (HW.out.grown HK.out) hg);have HN:=zH (HP.out.trans (aA.bf h1));clear hg h1 hq;go_wp2_with fail;exact⟨rfl,DW.no HN.out HG.out⟩
   have HE:=zH (aA.Gx _ _ _ h1);obtain⟨W1,HW1,dR⟩:=hk.join HW.out HK.out;replace HP:=zH (HP.out.trans (aA.aV h1));replace HW:=HW1;replace HK:=dR;clear HW1 dR h1 hk hq;simp only[List.append_nil] at HK;unfold rv;go_wp2_with (first|(refine dM aN (p:=x) HK ?_;intro _ g5 dz;simp only[aS,aK] at dz;have HR:=zH (dz.out.own 1 rfl).rd;replace HK:=dz;clear dz)|(at_builtin;refine bA HK aN 0 [x] rfl HR HL2 (N:=j+1) (zH (fP.out x)) ?_;intro A7 c7 _ dz;simp only[lS] at dz;replace HK:=zH (dz.out.ay 1);simp only[List.take] at HK;clear dz HR));exact aej
  ·obtain rfl:j=N:=by omega
   have HN:Hid (aA.uE false 5 aA.Qb l=some (xs,rc)):=zH (by
    have e:=HP.out;rw[Nat.sub_self,aA.vM] at e
    exact e)
   exact adV
end
section
def wX{α β:Type}(p:aA.P α)(v:β→α)(enc:β→Value)(rows:β→List bV)(g:Nat)(l:aA.Its)(w:World)(e:Ending)(w':World):Prop:=match p l with
 | some (o,r)=>∃x:β,v x=o∧e=.returned (enc x)∧yR g r (rows x) w w'
 | none=>Rno g w e w'
section
variable {α β:Type}{p:aA.P α}{v:β→α}{enc:β→Value}{rows:β→List bV}{g:Nat}{l r:aA.Its}{w w':World}{e:Ending}
theorem wX.split(h:wX p v enc rows g l w e w'):(p l=none∧e=.panicked [{ v:=.iface 23 (.int .i64 3),recovered:=false }]∧w.grownBy w' (some g))∨∃x r,p l=some (v x,r)∧e=.returned (enc x)∧yR g r (rows x) w w':=by
 unfold wX at h
 split at h
 ·next o r hp=>
  obtain⟨x,rfl,h1,h2⟩:=h;exact .inr ⟨x,r,hp,h1,h2⟩
 ·next hp=>exact .inl ⟨hp,h⟩
theorem wX.yes(x:β)(hp:p l=some (v x,r))(h:yR g r (rows x) w w'):wX p v enc rows g l w (.returned (enc x)) w':=by
 unfold wX;rw[hp];exact⟨x,rfl,rfl,h⟩
theorem wX.no(hp:p l=none)(h:w.grownBy w' (some g)):wX p v enc rows g l w (.panicked [{ v:=.iface 23 (.int .i64 3),recovered:=false }]) w':=by
 unfold wX;rw[hp];exact⟨rfl,h⟩
end
structure Ol where
 A:Option Addr
 n:Nat
 c:Nat
 l:List Oh
def mQ(q:Ol):List bV:=row bB (.slice q.A q.n q.c) q.l::q.l.flatMap rO
structure Sh where
 n:Int
 q:Ol
 t:aG.T
def Sh.v(x:Sh):Ap.St:=⟨x.n,vs x.q.l,x.t⟩
def Sh.enc(x:Sh):Value:=.agg (stA x.n x.q.A x.q.n x.q.c x.t)
theorem Ui(g:Nat)(l:aA.Its)(w:World)(h:uH g l w):Calls prog 78 #[.pointer (some ⟨g,0,none⟩)] w (wX (aA.ND false) (fun x:Oh=>x.v) (fun x=>.agg (cu x)) rO g l w):=by
 have HT:=zH CW;have RV:=zH jf;have HLp:=zH EA;have Yt:=zH Ey;have HLr:=zH Ez;have HM_:=zH Zm;have HW:=zH (tq.start h);have HK:=zH (Kn.start w);have HP:=zH (show aA.ND false l=(aA.bnd aA.txt fun a=>aA.bnd aA.num fun k=>aA.bnd aA.num fun p=>aA.bnd aA.num fun d=>aA.bnd (aA.uE false 8 aA.Nw) fun ps=>aA.bnd (aA.uE false 8 aA.val) fun vs=>aA.bnd (aA.uE false 5 aA.Qb) fun rs=>aA.bnd aA.mtP fun m=>aA.ret ⟨a,k,p,ps,vs,rs,d,m⟩) l from rfl);have hmf:∀(fn:Fn) (first cap:Array Value) (w:World),(Instr.makeFunc fn first cap).run prog w=.ok (.func fn first cap) w:=fun _ _ _ _=>rfl
 clear h;go_enter func78,ntmps78;go_wp2_with (refine pV HK ?_;clear HK;intro _ g1 HK;simp only[aK] at HK);refine(HT.out _ _ _ (HW.out.at HK.out)).mono ?_;intro e w1 hq
 rcases hq.split with ⟨h1,rfl,hg⟩|⟨a,r1,h1,rfl,hk⟩
 ·have HG:=zH (aU (HW.out.grown HK.out) hg);have HN:=zH (HP.out.trans (aA.bf h1));clear hg h1 hq;go_wp2_with fail;exact⟨rfl,wX.no HN.out HG.out⟩
 obtain⟨W1,HW1,dR⟩:=hk.join HW.out HK.out;replace HP:=zH (HP.out.trans (aA.aV h1));replace HW:=HW1;replace HK:=dR;clear HW1 dR h1 hk hq;simp only[List.append_nil] at HK;go_wp2_with fail;refine(RV.out _ _ _ (HW.out.at HK.out)).mono ?_;intro e w1 hq
 rcases hq.split with ⟨h1,rfl,hg⟩|⟨k,r2,h1,rfl,hk⟩
 ·have HG:=zH (aU (HW.out.grown HK.out) hg);have HN:=zH (HP.out.trans (aA.bf h1));clear hg h1 hq;go_wp2_with fail;exact⟨rfl,wX.no HN.out HG.out⟩
 obtain⟨W1,HW1,dR⟩:=hk.join HW.out HK.out;replace HP:=zH (HP.out.trans (aA.aV h1));replace HW:=HW1;replace HK:=dR;clear HW1 dR h1 hk hq;simp only[List.append_nil] at HK;go_wp2_with fail;refine(RV.out _ _ _ (HW.out.at HK.out)).mono ?_;intro e w1 hq
 rcases hq.split with ⟨h1,rfl,hg⟩|⟨p,r3,h1,rfl,hk⟩
 ·have HG:=zH (aU (HW.out.grown HK.out) hg);have HN:=zH (HP.out.trans (aA.bf h1));clear hg h1 hq;go_wp2_with fail;exact⟨rfl,wX.no HN.out HG.out⟩
 obtain⟨W1,HW1,dR⟩:=hk.join HW.out HK.out;replace HP:=zH (HP.out.trans (aA.aV h1));replace HW:=HW1;replace HK:=dR;clear HW1 dR h1 hk hq;simp only[List.append_nil] at HK;go_wp2_with fail;refine(RV.out _ _ _ (HW.out.at HK.out)).mono ?_;intro e w1 hq
 rcases hq.split with ⟨h1,rfl,hg⟩|⟨d,r4,h1,rfl,hk⟩
 ·have HG:=zH (aU (HW.out.grown HK.out) hg);have HN:=zH (HP.out.trans (aA.bf h1));clear hg h1 hq;go_wp2_with fail;exact⟨rfl,wX.no HN.out HG.out⟩
 obtain⟨W1,HW1,dR⟩:=hk.join HW.out HK.out;replace HP:=zH (HP.out.trans (aA.aV h1));replace HW:=HW1;replace HK:=dR;clear HW1 dR h1 hk hq;simp only[List.append_nil] at HK;go_wp2_with fail;refine(HLp.out _ _ _ (HW.out.at HK.out)).mono ?_;intro e w1 hq
 rcases hq.split with ⟨h1,rfl,hg⟩|⟨ps,r5,A1,n1,c1,h1,rfl,hk⟩
 ·have HG:=zH (aU (HW.out.grown HK.out) hg);have HN:=zH (HP.out.trans (aA.bf h1));clear hg h1 hq;go_wp2_with fail;exact⟨rfl,wX.no HN.out HG.out⟩
 obtain⟨W1,HW1,dR⟩:=hk.join HW.out HK.out;replace HP:=zH (HP.out.trans (aA.aV h1));replace HW:=HW1;replace HK:=dR;clear HW1 dR h1 hk hq;simp only[aK,aS] at HK;go_wp2_with fail;refine(Yt.out _ _ _ (HW.out.at HK.out)).mono ?_;intro e w1 hq
 rcases hq.split with ⟨h1,rfl,hg⟩|⟨vl,r6,A2,n2,c2,h1,rfl,hk⟩
 ·have HG:=zH (aU (HW.out.grown HK.out) hg);have HN:=zH (HP.out.trans (aA.bf h1));clear hg h1 hq;go_wp2_with fail;exact⟨rfl,wX.no HN.out HG.out⟩
 obtain⟨W1,HW1,dR⟩:=hk.join HW.out HK.out;replace HP:=zH (HP.out.trans (aA.aV h1));replace HW:=HW1;replace HK:=dR;clear HW1 dR h1 hk hq;simp only[aK,aS] at HK;go_wp2_with fail;refine(HLr.out _ _ _ (HW.out.at HK.out)).mono ?_;intro e w1 hq
 rcases hq.split with ⟨h1,rfl,hg⟩|⟨rs,r7,A3,n3,c3,h1,rfl,hk⟩
 ·have HG:=zH (aU (HW.out.grown HK.out) hg);have HN:=zH (HP.out.trans (aA.bf h1));clear hg h1 hq;go_wp2_with fail;exact⟨rfl,wX.no HN.out HG.out⟩
 obtain⟨W1,HW1,dR⟩:=hk.join HW.out HK.out;replace HP:=zH (HP.out.trans (aA.aV h1));replace HW:=HW1;replace HK:=dR;clear HW1 dR h1 hk hq;simp only[aK,aS] at HK;go_wp2_with fail;refine(HM_.out _ _ _ (HW.out.at HK.out)).mono ?_;intro e w1 hq
 rcases hq.split with ⟨h1,rfl,hg⟩|⟨m,r8,h1,rfl,hk⟩
 ·have HG:=zH (aU (HW.out.grown HK.out) hg);have HN:=zH (HP.out.trans (aA.bf h1));clear hg h1 hq;go_wp2_with fail;exact⟨rfl,wX.no HN.out HG.out⟩
 obtain⟨W1,HW1,dR⟩:=hk.join HW.out HK.out;replace HP:=zH (HP.out.trans (aA.aV h1));replace HW:=HW1;replace HK:=dR;clear HW1 dR h1 hk hq;simp only[List.append_nil] at HK;go_wp2_with (refine jF (x:=Co) (y:=⟨⟨a,k,p,ps,vl,rs,d,m⟩,A1,n1,c1,A2,n2,c2,A3,n3,c3⟩) HK 0 ?_;clear HK;intro _ HK;simp only[lS] at HK);exact Us results78 (HK.out.blk 0 rfl) underlying75 zK (wX.yes (⟨⟨a,k,p,ps,vl,rs,d,m⟩,A1,n1,c1,A2,n2,c2,A3,n3,c3⟩:Oh) HP.out (yR.mk HW.out HK.out))
theorem EC(g:Nat)(l:aA.Its)(w:World)(h:uH g l w):Calls prog 77 #[.pointer (some ⟨g,0,none⟩),.func (.func 78) #[.pointer (some ⟨g,0,none⟩)] #[]] w (wX (aA.uE false 8 (aA.ND false)) (fun q:Ol=>vs q.l) (fun q=>.slice q.A q.n q.c) mQ g l w):=by
 have HI:=zH jf;have HC:=zH Ui;have HW:=zH (tq.start h);have HK:=zH (Kn.start w);have HP:=zH (show aA.uE false 8 (aA.ND false) l=aA.bnd aA.num (fun n=>if n<0∨(false=true∧8<n) then fun _=>none else aA.rep (aA.ND false) n.toNat) l from rfl);clear h;go_enter func77,ntmps77;go_wp2_with fail;refine(HI.out _ _ _ (HW.out.at HK.out)).mono ?_;intro e w1 hq
 rcases hq.split with ⟨h1,rfl,hg⟩|⟨n,r0,h1,rfl,hk⟩
 ·have HG:=zH (aU (HW.out.grown HK.out) hg);have HN:=zH (HP.out.trans (aA.bf h1));clear hg h1 hq;go_wp2_with fail;exact⟨rfl,wX.no HN.out HG.out⟩
 obtain⟨W1,HW1,dR⟩:=hk.join HW.out HK.out;replace HP:=zH (HP.out.trans (aA.aV h1));replace HW:=HW1;replace HK:=dR;clear HW1 dR h1 hk hq;simp only[List.append_nil] at HK;by_cases hneg:n<0
 ·have HN:=zH (aA.zD HP.out hneg)
  clear HP;go_wp2_with fail;exact⟨rfl,wX.no HN.out (HW.out.grown HK.out)⟩
 obtain⟨N,rfl⟩:=Int.eq_ofNat_of_zero_le (show 0≤n by omega);replace HP:=zH (aA.zC HP.out);have HS:=zH HW.out.2.short;clear hneg;have hneg:¬((N:Int)<0):=by omega
 go_wp2_with (refine kM bB HK ?_;clear HK;intro _ g2 HK;simp only[aK] at HK);clear hneg;go_loopw [6,14] (fun vl vi wr=>∃(j:Nat) (A1:Option Addr) (c1:Nat) (xs:List Oh) (rc:aA.Its) (W1:World),j≤N∧j≤16384∧vl=.slice A1 j c1∧vi=.int .i64 j∧Hid (xs.length=j)∧Hid (j+rc.length≤16384)∧Hid (aA.uE false 8 (aA.ND false) l=aA.bnd (aA.rep (aA.ND false) (N-j)) (fun ys=>aA.ret (vs xs++ys)) rc)∧Hid (tq g w W1 rc)∧Hid (Kn w.heap.size W1 wr [] (row bB (.slice A1 j c1) xs::xs.flatMap rO))) (fun _ vi _=>N-(intOf vi).toNat)
 case atStart=>exact⟨0,_,0,[],r0,_,Nat.zero_le _,Nat.zero_le _,rfl,rfl,zH rfl,zH (by have:=HS.out;omega),HP,HW,HK⟩
 case round=>
  clear HK HW HP HS;obtain⟨j,A1,c1,xs,rc,W2,hj,hjb,rfl,rfl,XV,HRc,HP,HW,HK⟩:=hrel;by_cases hlt:j<N
  ·have HL2:Hid (xs.length+1≤9223372036854775807∧(xs.length+1)*bB.bytes≤211106232532992):=zH (by
    rw[XV.out];refine⟨by omega,?_⟩
    show(j+1)*144≤_
    omega)
   have fP:Hid (∀y:Oh,(xs++[y]).length=j+1):=zH fun y=>by rw[List.length_append,XV.out];rfl
   obtain⟨m,hm⟩:∃m,N-j=m+1:=⟨N-j-1,by omega⟩;have HM:Hid (m=N-(j+1)):=zH (by omega);rw[hm,aA.vL] at HP;clear hm;have hk2:(j:Int)<(N:Int):=by omega
   go_wp2_with fail;refine(HC.out _ _ _ (HW.out.at HK.out)).mono ?_;intro e w2 hq
   rcases hq.split with ⟨h1,rfl,hg⟩|⟨x,r1,h1,rfl,hk⟩
   ·have HG:=zH (aU (HW.out.grown HK.out) hg);have HN:=zH (HP.out.trans (aA.bf h1));clear hg h1 hq;go_wp2_with fail;exact⟨rfl,wX.no HN.out HG.out⟩
   have HE:=zH (aA.Vh false _ _ _ h1);obtain⟨W1,HW1,dR⟩:=hk.join HW.out HK.out;replace HP:=zH (HP.out.trans (aA.aV h1));replace HW:=HW1;replace HK:=dR;clear HW1 dR h1 hk hq;have HVs:Hid (vs xs++[x.v]=vs (xs++[x])):=zH (by unfold vs;rw[List.map_append];rfl);have HRw:Hid ((xs++[x]).flatMap rO=xs.flatMap rO++rO x):=zH (by rw[List.flatMap_append];simp);simp only[aS] at HK;rw[← HRw.out] at HK;go_wp2_with (first|(refine dM bB (p:=x) HK ?_;intro _ g5 dz;have HR:=zH (Kn.zI dz.out).rd;simp only[aS] at dz;replace HK:=dz;clear dz)|(at_builtin;refine bA HK bB 0 [x] rfl HR HL2 (N:=j+1) (zH (fP.out x)) ?_;intro A7 c7 _ dz;simp only[lS] at dz;rw[← aS] at dz;replace HK:=zH dz.out.init;clear dz HR));have hjb2:j+1≤16384:=by have:=HRc.out;have:=HE.out;omega
   exact⟨⟨j+1,A7,c7,xs++[x],r1,_,by omega,hjb2,rfl,by go_num,zH (fP.out x),zH (by have:=HRc.out;have:=HE.out;omega),zH (by rw[← HM.out,← HVs.out];exact HP.out),HW,HK⟩,by simp[intOf];omega⟩
  ·obtain rfl:j=N:=by omega
   have HN:Hid (aA.uE false 8 (aA.ND false) l=some (vs xs,rc)):=zH (by
    have e:=HP.out;rw[Nat.sub_self,aA.vM] at e
    exact e)
   clear HP;go_wp2_with fail;go_ret;exact wX.yes (⟨A1,j,c1,xs⟩:Ol) HN.out (yR.mk HW.out HK.out)
section
variable {w:World}{o:Oper}{a:Act}
theorem oU(ho:o.op=.build 33 #[]:=by rfl):
  (execOp a.eval o).run prog w=.ok (.value (.agg (stA 0 none 0 0 tz))) w:=by
 have h:(Instr.build 33 #[]).run prog w=.ok (.agg (stA 0 none 0 0 tz)) w:=by
  unfold stA tz aG.z au.rz;go_simp
 exact YE
theorem Rm{n:Int}{A:Option Addr}{k c:Nat}{x:Operand}{y:Operand}(ho:o.op=.build 33 #[(0,x),(1,y)])(hx:a.eval x=.int .i64 n)(hy:a.eval y=.slice A k c):
  (execOp a.eval o).run prog w=.ok (.value (.agg (stA n A k c tz))) w:=by
 have h:(Instr.build 33 #[(0,.int .i64 n),(1,.slice A k c)]).run prog w=.ok (.agg (stA n A k c tz)) w:=by
  unfold stA tz aG.z au.rz;go_simp
 unfold execOp;simp only[ho,Sem.run_bind,Sem.run_pure,Result.andThen_ok,List.map_toArray,List.map_cons,List.map_nil,hx,hy,h]
end
theorem Za{i:Int}(hi:0≤i∧i<5)(n:Int)(A:Option Addr)(k c:Nat)(t:aG.T)(s:aG.S):putCells (stA n A k c t) (2+i.toNat*9) (fK s).toList=stA n A k c (t.set i s):=by
 rcases aG.fO hi with rfl|rfl|rfl|rfl|rfl<;>kernel_rfl
theorem JK{b0:Nat}{w0 w:World}{L:List (Nat×TypeId×Array Value)}{R:List bV}{ops:Array Oper}{rest:List Oper}{o:Oper}{a:Act}{Q:Exit→Act→World→Prop}{g:Nat}{n:Int}{A:Option Addr}{k c:Nat}{t:aG.T}{s:aG.S}{q:Int}(HK:Hid (Kn b0 w0 w L R))(i:Nat)(hq:0≤q∧q<5)(hgd:o.guard=none){x:Operand}{y:Operand}(ho:o.op=.store 30 x y)(hL:L[i]?=some (g,33,stA n A k c t))(hx:a.eval x=.pointer (some ⟨g,2+q.toNat*9,none⟩))(hy:a.eval y=.agg (fK s))
  (h:∀w',Hid (Kn b0 w0 w' (L.set i (g,33,stA n A k c (t.set q s))) R)→wpList prog ops Q rest (a.put o.dst undef) w'):wpList prog ops Q (o::rest) a w:=
 iL HK i hgd x y ho hL hx hy (by show 2+q.toNat*9+9≤47;omega) qh (h1:=(by simp[fK,Value.oneCell'])) fun w' h1 _=>h w' (by
  rw[Za hq] at h1
  exact h1)
theorem aA.RG{α β γ:Type}(p:aA.P α)(f:α→aA.P β)(k:β→aA.P γ)(l:aA.Its):aA.bnd (aA.bnd p f) k l=aA.bnd p (fun a=>aA.bnd (f a) k) l:=by
 cases h:p l with
 | none=>unfold aA.bnd;simp only[h]
 | some z=>
  obtain⟨x,r⟩:=z;unfold aA.bnd;simp only[h]
def aA.tbR(t:aG.T):Nat→aA.P aG.T
 | 0=>aA.ret t
 | m+1=>aA.bnd aA.Kt fun s=>aA.tbR (t.set ((4-m:Nat):Int) s) m
theorem aA.Tn(t:aG.T){i:Nat}(hi:i<5):aA.tbR t (5-i)=aA.bnd aA.Kt fun s=>aA.tbR (t.set (i:Int) s) (5-(i+1)):=by
 match i,hi with
 | 0,_=>rfl
 | 1,_=>rfl
 | 2,_=>rfl
 | 3,_=>rfl
 | 4,_=>rfl
theorem Kv(g:Nat)(l:aA.Its)(w:World)(h:uH g l w):Calls prog 36 #[.pointer (some ⟨g,0,none⟩)] w (wX (aA.stP false) Sh.v Sh.enc (fun x=>mQ x.q) g l w):=by
 have HI:=zH jf;have HLo:=zH EC;have FN:=zH Zk;have HW:=zH (tq.start h);have HK:=zH (Kn.start w);have HP:=zH (show aA.stP false l=(aA.bnd aA.num fun n=>aA.bnd (aA.uE false 8 (aA.ND false)) fun lo=>aA.bnd aA.tbP fun t=>aA.ret ⟨n,lo,t⟩) l from rfl);have hmf:∀(fn:Fn) (first cap:Array Value) (w:World),(Instr.makeFunc fn first cap).run prog w=.ok (.func fn first cap) w:=fun _ _ _ _=>rfl
 clear h;go_enter func36,ntmps36;go_wp2_with (refine bF HK ?_;clear HK;intro _ g1 HK;simp only[aK] at HK);refine(HI.out _ _ _ (HW.out.at HK.out)).mono ?_;intro e w1 hq
 rcases hq.split with ⟨h1,rfl,hg⟩|⟨n,r1,h1,rfl,hk⟩
 ·have HG:=zH (aU (HW.out.grown HK.out) hg);have HN:=zH (HP.out.trans (aA.bf h1));clear hg h1 hq;go_wp2_with fail;exact⟨rfl,wX.no HN.out HG.out⟩
 obtain⟨W1,HW1,dR⟩:=hk.join HW.out HK.out;replace HP:=zH (HP.out.trans (aA.aV h1));replace HW:=HW1;replace HK:=dR;clear HW1 dR h1 hk hq;simp only[List.append_nil] at HK;go_wp2_with fail;refine(HLo.out _ _ _ (HW.out.at HK.out)).mono ?_;intro e w1 hq
 rcases hq.split with ⟨h1,rfl,hg⟩|⟨q,r2,h1,rfl,hk⟩
 ·have HG:=zH (aU (HW.out.grown HK.out) hg);have HN:=zH (HP.out.trans (aA.bf h1));clear hg h1 hq;go_wp2_with fail;exact⟨rfl,wX.no HN.out HG.out⟩
 obtain⟨W1,HW1,dR⟩:=hk.join HW.out HK.out;replace HP:=zH (HP.out.trans (aA.aV h1));replace HW:=HW1;replace HK:=dR;clear HW1 dR h1 hk hq;simp only[aK,aS] at HK;go_wp2_with (first|refine zX (Rm (n:=n) (A:=q.A) (k:=q.n) (c:=q.c) (by rfl) (by rfl) (by rfl)) ?_|(refine bF HK ?_;clear HK;intro _ g3 HK;simp only[aS,aK] at HK)|(refine bg (m:=n) (B:=q.A) (i:=q.n) (j:=q.c) (u:=tz) HK 1 ?_;clear HK;intro _ HK;simp only[lS] at HK));have HP2:Hid (aA.stP false l=aA.bnd (aA.tbR tz (5-0)) (fun t=>aA.ret ⟨n,vs q.l,t⟩) r2):=zH HP.out;clear HP;go_loopw [12] (fun vi wr=>∃(i:Nat) (t:aG.T) (rc:aA.Its) (W1:World),i≤5∧vi=.int .i64 i∧Hid (aA.stP false l=aA.bnd (aA.tbR t (5-i)) (fun t=>aA.ret ⟨n,vs q.l,t⟩) rc)∧Hid (tq g w W1 rc)∧Hid (Kn w.heap.size W1 wr [(g1,33,stA 0 none 0 0 tz),(g3,33,stA n q.A q.n q.c t)] (mQ q))) (fun vi _=>5-(intOf vi).toNat)
 case atStart=>exact⟨0,tz,r2,_,Nat.zero_le _,rfl,HP2,HW,HK⟩
 case round=>
  clear HK HW HP2;obtain⟨i,t,rc,W2,hi,rfl,HP,HW,HK⟩:=hrel;by_cases hlt:i<5
  ·rw[aA.Tn t hlt] at HP
   replace HP:Hid (aA.stP false l=aA.bnd aA.Kt (fun s=>aA.bnd (aA.tbR (t.set (i:Int) s) (5-(i+1))) (fun t=>aA.ret ⟨n,vs q.l,t⟩)) rc):=zH (HP.out.trans (aA.RG _ _ _ _));have hk1:(0:Int)≤(i:Int):=by omega
   have hk2:(i:Int)<5:=by omega
   go_wp2_with fail;refine(FN.out _ _ _ (HW.out.at HK.out)).mono ?_;intro e w2 hq
   rcases hq.split with ⟨h1,rfl,hg⟩|⟨s,r1,h1,rfl,hk⟩
   ·have HG:=zH (aU (HW.out.grown HK.out) hg);have HN:=zH (HP.out.trans (aA.bf h1));clear hg h1 hq;go_wp2_with fail;exact⟨rfl,wX.no HN.out HG.out⟩
   obtain⟨W1,HW1,dR⟩:=hk.join HW.out HK.out;replace HP:=zH (HP.out.trans (aA.aV h1));replace HW:=HW1;replace HK:=dR;clear HW1 dR h1 hk hq;simp only[List.append_nil] at HK;go_wp2_with (first|refine zX (fJ (q1:=(i:Int)) ⟨hk1,hk2⟩) ?_|(refine JK (s:=s) (q:=(i:Int)) HK 1 ⟨hk1,hk2⟩ rfl rfl rfl rfl rfl ?_;clear HK;intro _ HK;simp only[lS] at HK));exact⟨⟨i+1,t.set (i:Int) s,r1,_,by omega,by go_num,HP,HW,HK⟩,by simp[intOf];omega⟩
  ·obtain rfl:i=5:=by omega
   have HN:Hid (aA.stP false l=some (⟨n,vs q.l,t⟩,rc)):=zH HP.out;clear HP;go_wp2_with (first|refine zX (lq HK 1) ?_|(refine bg (m:=n) (B:=q.A) (i:=q.n) (j:=q.c) (u:=t) HK 0 ?_;clear HK;intro _ HK;simp only[lS] at HK));exact Uo results36 rfl rfl (HK.out.blk 0 rfl) (wX.yes (⟨n,q,t⟩:Sh) HN.out (yR.mk HW.out HK.out))
end
section
theorem NZ:(prog.info? 4).map (·.size)=some 1:=by kernel_rfl
section
variable {b0:Nat}{w0 w:World}{L:List (Nat×TypeId×Array Value)}{R:List bV}{ops:Array Oper}{rest:List Oper}{o:Oper}{a:Act}{Q:Exit→Act→World→Prop}{K:Act→World→Prop}{E:Prop}{g:Nat}{q d:Bool}
theorem JW(HK:Hid (Kn b0 w0 w L R))(hgd:o.guard=none)(ho:o.op=.alloc 4)
  (h:∀w' g,Hid (Kn b0 w0 w' (L++[(g,4,#[.bool false])]) R)→wpList prog ops Q rest (a.put o.dst (.pointer (some ⟨g,0,none⟩))) w'):wpList prog ops Q (o::rest) a w:=
 wpList_plain hgd fun K hK=>by
  have h4:=h _ w.heap.size (zH (HK.out.alloc _ _));unfold Oper.wp execOp;simp only[ho];exact zV
theorem JU{A:Option Addr}{n c:Nat}(HK:Hid (Kn b0 w0 w L R))(hgd:o.guard=none){x:Operand}(ho:o.op=.box 95 x)(hx:a.eval x=.agg #[.slice A n c])
  (h:∀w' g,Hid (Kn b0 w0 w' (L++[(g,95,#[.slice A n c])]) R)→wpList prog ops Q rest (a.put o.dst (.pointer (some ⟨g,0,none⟩))) w'):wpList prog ops Q (o::rest) a w:=
 wpList_plain hgd fun K hK=>by
  have h4:=h _ w.heap.size (zH (HK.out.alloc _ _));unfold Oper.wp execOp;simp only[ho,hx];exact zV
theorem JQ(HK:Hid (Kn b0 w0 w L R))(i:Nat)(hgd:o.guard=none){x:Operand}{y:Operand}(ho:o.op=.store 4 x y)(hL:L[i]?=some (g,4,#[.bool q]))(hx:a.eval x=.pointer (some ⟨g,0,none⟩))(hy:a.eval y=.bool d)
  (h:∀w',Hid (Kn b0 w0 w' (L.set i (g,4,#[.bool d])) R)→wpList prog ops Q rest (a.put o.dst undef) w'):wpList prog ops Q (o::rest) a w:=
 jK HK i hgd x y ho hL hx hy (by show 0<1;decide) NZ fun w' h1 _=>h w' h1
theorem TD(HK:Hid (Kn b0 w0 w L R))(i:Nat)(hgd:o.guard=none){x:Operand}{y:Operand}(ho:o.op=.store 4 x y)(hL:L[i]?=some (g,4,#[.bool q]))(hx:a.eval x=.pointer (some ⟨g,0,none⟩))(hy:a.eval y=.bool d)
  (h:∀w',Hid (Kn b0 w0 w' (L.set i (g,4,#[.bool d])) R)→K (a.put o.dst undef) w'):if Region.wanted o (yielded ops a.tmps)=true then Oper.wp prog o a w K Q else E:=by
 rw[if_pos (by simp[Region.wanted,hgd])];exact nR HK x y ho i hL hx hy (by show 0<1;decide) (hi:=NZ) fun w' h1 _=>h w' h1
end
theorem yR.own{b0:Nat}{w0 wc w1:World}{L:List (Nat×TypeId×Array Value)}{R Rn:List bV}{g:Nat}{r:aA.Its}{cs:Array Value}(k:Kn b0 w0 wc L R)(i:Nat)(hi:L[i]?=some (g,95,cs))(q:yR g r Rn wc w1):
  ∃(A:Option Addr) (n c:Nat),r.length=n∧Hid (Kn b0 w0 w1 (L.set i (g,95,#[.slice A n c])) (R++Rn)):=by
 obtain⟨V,⟨vb,A,n,c,hb,_,hl,_⟩,kv⟩:=q;have hg:=(k.l i _ hi).1;refine⟨A,n,c,hl,zH (Kn.join ?_ (by rw[vb.size];exact kv))⟩;exact k.Zh hi ⟨vb.os,vb.tape,vb.output,by rw[vb.size];exact Nat.le_refl _,fun j hj=>vb.block j (by omega)⟩ vb.size hb fun hk hne=>(vb.block _ hne).trans hk
theorem KQ(ga gb:Nat)(n:Int)(A:Option Addr)(k c:Nat)(t:aG.T)(q:Bool){b0:Nat}{w0:World}{w:World}(HK:Hid (Kn b0 w0 w [(ga,33,stA n A k c t),(gb,4,#[.bool q])] [])):
  CallsD prog 35 #[.pointer (some ⟨ga,0,none⟩),.pointer (some ⟨gb,0,none⟩)] (.panicking [{ v:=.iface 23 (.int .i64 3),recovered:=false }]) w fun e u' w'=>
   e=.returned (.tuple #[])∧u'=.panicking [{ v:=.iface 23 (.int .i64 3),recovered:=true }]∧Hid (Kn b0 w0 w' [(ga,33,stA 0 none 0 0 tz),(gb,4,#[.bool false])] []):=by
 refine callsD_of_wpS func35 rfl fun c₀ cs hu=>?_
 apply wpS_seq;apply wpS_region;simp[wpOpsS,go_sem,recoverD,hu,ntmps35,Exit.thenS];refine wpS_cond (t:=true) (by simp[Act.eval,Array.replicate]) ?_;simp only[if_true];refine wpS_of_wp ?_;go_wp2_with (first|refine zX (oU) ?_|(refine bg (m:=0) (B:=none) (i:=0) (j:=0) (u:=tz) HK 0 ?_;clear HK;intro _ HK;simp only[lS] at HK)|(refine JQ (d:=false) HK 1 rfl rfl rfl rfl rfl ?_;clear HK;intro _ HK;simp only[lS] at HK));simp[bodyPostS,results,results35];exact HK
theorem GK(a b:Nat){w:World}:
  CallsD prog 35 #[.pointer (some ⟨a,0,none⟩),.pointer (some ⟨b,0,none⟩)] .returning w fun e u' w'=>e=.returned (.tuple #[])∧u'=.returning∧w'=w:=by
 refine callsD_of_wpS func35 rfl fun c₀ cs hu=>?_
 apply wpS_seq;apply wpS_region;simp[wpOpsS,go_sem,recoverD,hu,ntmps35,Exit.thenS];refine wpS_cond (t:=false) (by simp[Act.eval,Array.replicate]) ?_;simp only[Bool.false_eq_true,if_false];refine wpS_of_wp (wp_skip ?_);cases c₀
 simp_all [bodyPostS,results,results35]
def qy(l:aA.Its)(w:World)(e:Ending)(w':World):Prop:=match aA.stP false l with
 | some (s,r)=>∃(x:Sh) (b:Bool),x.v=s∧(b=true↔r=[])∧e=.returned (.tuple #[x.enc,.bool b])∧Kn w.heap.size w w' [] (mQ x.q)
 | none=>e=.returned (.tuple #[.agg (stA 0 none 0 0 tz),.bool false])∧Below w.heap.size w w'
theorem NJ{ga:Nat}{n:Int}{A:Option Addr}{k c:Nat}{t:aG.T}{w:World}(h:eT w ga 33 (stA n A k c t)):(loadVar 33 ⟨ga,0,none⟩).run prog w=.ok (.agg (stA n A k c t)) w:=
 run_loadVar_row (P:=prog) w ga _ _ _ (0,0) _ h underlying33 rfl wm
theorem NK{gb:Nat}{q:Bool}{w:World}(h:eT w gb 4 #[.bool q]):(loadVar 4 ⟨gb,0,none⟩).run prog w=.ok (.bool q) w:=by
 have hc:w.cell? ⟨gb,0,none⟩=some (.bool q):=h.cell 0
 have hagg:(isAgg 4).run prog w=.ok false w:=by
  unfold isAgg;rw[Sem.run_bind,run_underlying underlying4 w]
  rfl
 simp[loadVar,Sem.run_bind,hagg,hc]
theorem Qf(l:aA.Its)(ga gb:Nat)(w w1:World)(HN:Hid (aA.stP false l=none)){n:Int}{A:Option Addr}{k:Nat}{c:Nat}{t:aG.T}{q:Bool}(HK:Hid (Kn w.heap.size w w1 [(ga,33,stA n A k c t),(gb,4,#[.bool q])] [])){a:Act}
  (hd:a.defers=[{ target:=.fn (.func 35) #[.pointer (some ⟨ga,0,none⟩),.pointer (some ⟨gb,0,none⟩)],args:=#[] }])
  (h2:a.tmps.getD 2 undef=.pointer (some ⟨ga,0,none⟩)) (h3:a.tmps.getD 3 undef=.pointer (some ⟨gb,0,none⟩)) :
  bodyPostD prog f13 (qy l w) (Exit.panic [{ v:=.iface 23 (.int .i64 3),recovered:=false }]) a w1:=by
 obtain⟨tmps,defers⟩:=a;simp only at hd h2 h3;subst hd
 show Leaves _ _ _ _ _ _ _
 refine leaves_cons (f:=35) (args:=#[.pointer (some ⟨ga,0,none⟩),.pointer (some ⟨gb,0,none⟩)]) (by simp) (by simp[go_sem]) ?_;refine(KQ ga gb n A k c t q HK).mono ?_;rintro e u' w'' ⟨rfl,rfl,HK2⟩
 have FIN:Hid (qy l w (.returned (.tuple #[.agg (stA 0 none 0 0 tz),.bool false])) w''):=zH (by
  unfold qy;rw[HN.out]
  exact⟨rfl,HK2.out.b⟩)
 have hS:=NJ (HK2.out.blk 0 rfl);have k2:=NK (HK2.out.blk 1 rfl);clear HK HK2 HN;have h2':tmps[2]?.getD undef=.pointer (some ⟨ga,0,none⟩):=by simpa using h2
 have h3':tmps[3]?.getD undef=.pointer (some ⟨gb,0,none⟩):=by simpa using h3
 generalize stA 0 none 0 0 tz=z at *
 simp[Leaves,settle,results,results13,asAddr,Sem.run_bind,h2',h3',hS,k2];exact FIN.out
theorem Qe(l:aA.Its)(ga gb:Nat)(w:World){w1:World}{n:Int}{A:Option Addr}{k:Nat}{c:Nat}{t:aG.T}{q:Bool}{L:List (Nat×TypeId×Array Value)}{R:List bV}(HK:Hid (Kn w.heap.size w w1 ((ga,33,stA n A k c t)::(gb,4,#[.bool q])::L) R))
  (HR:Hid (qy l w (.returned (.tuple #[.agg (stA n A k c t),.bool q])) w1)) {a:Act}
  (hd:a.defers=[{ target:=.fn (.func 35) #[.pointer (some ⟨ga,0,none⟩),.pointer (some ⟨gb,0,none⟩)],args:=#[] }])
  (h2:a.tmps.getD 2 undef=.pointer (some ⟨ga,0,none⟩)) (h3:a.tmps.getD 3 undef=.pointer (some ⟨gb,0,none⟩)) :
  bodyPostD prog f13 (qy l w) Exit.ret a w1:=by
 obtain⟨tmps,defers⟩:=a;simp only at hd h2 h3;subst hd
 show Leaves _ _ _ _ _ _ _
 refine leaves_cons (f:=35) (args:=#[.pointer (some ⟨ga,0,none⟩),.pointer (some ⟨gb,0,none⟩)]) (by simp) (by simp[go_sem]) ?_;refine(GK ga gb).mono ?_;rintro e u' w'' ⟨rfl,rfl,rfl⟩;have hS:=NJ (HK.out.blk 0 rfl);have k2:=NK (HK.out.blk 1 rfl);clear HK;have h2':tmps[2]?.getD undef=.pointer (some ⟨ga,0,none⟩):=by simpa using h2
 have h3':tmps[3]?.getD undef=.pointer (some ⟨gb,0,none⟩):=by simpa using h3
 generalize stA n A k c t=z at *
 simp[Leaves,settle,results,results13,asAddr,Sem.run_bind,h2',h3',hS,k2];exact HR.out
theorem xE(A:Option Addr)(n c:Nat)(l:aA.Its)(w:World)(hr:aD.Reads w w.heap.size A l)(hl:l.length=n)(hA:A=none→l=[])(hc:n≤c)(hn:n≤16384):Calls prog 13 #[.slice A n c] w (qy l w):=by
 have hmf:∀(fn:Fn) (first cap:Array Value) (w:World),(Instr.makeFunc fn first cap).run prog w=.ok (.func fn first cap) w:=fun _ _ _ _=>rfl
 have HRs:Hid (∀W g,Below w.heap.size w W→w.heap.size≤g→eT W g 95 #[.slice A n c]→uH g l W):=zH fun W g hW hg hb=>⟨A,n,c,hb,(hr.below hW).more hg,hl,hA,hc,hn⟩
 have HC:=zH Kv;have HK:=zH (Kn.start w);clear hr hl hA hc hn;go_enter_defers func13,ntmps13;go_wp2_with (first|(refine bF HK ?_;clear HK;intro _ ga HK;simp only[aK] at HK)|(refine JW HK rfl rfl ?_;clear HK;intro _ gb HK;simp only[aS,aK] at HK)|(refine JU HK rfl rfl rfl ?_;clear HK;intro _ gr HK;simp only[aS,aK] at HK));refine(HC.out gr l _ (HRs.out _ _ HK.out.b (HK.out.l 2 _ rfl).1 (HK.out.blk 2 rfl))).mono ?_;intro e w1 hq
 rcases hq.split with ⟨h1,rfl,hg⟩|⟨x,r,h1,rfl,hk⟩
 ·have HN:=zH h1
  have hba:=HK.out.ll 0 2 _ _ rfl rfl (by decide);have hbb:=HK.out.ll 1 2 _ _ rfl rfl (by decide)
  have dR:Hid (Kn w.heap.size w w1 [(ga,33,stA 0 none 0 0 tz),(gb,4,#[.bool false])] []):=zH (by
   have h2:=HK.out.aB 2;have hl0:=(HK.out.l 0 _ rfl).1;have hl1:=(HK.out.l 1 _ rfl).1;have hl2:=(HK.out.l 2 _ rfl).1
   have key:∀(i:Nat) z,[(ga,33,stA 0 none 0 0 tz),(gb,4,#[Value.bool false])][i]?=some z→¬z.1=gr:=fun i z hz=>by
    match i,hz with
    | 0,hz=>cases hz;exact hba
    | 1,hz=>cases hz;exact hbb
   refine⟨h2.b.trans ⟨hg.os,hg.tape,hg.output,hg.size,fun j hj=>hg.block j (Nat.lt_of_lt_of_le hj h2.m) (by intro e;injection e with e;subst e;exact absurd hl2 (by simp only;omega))⟩,Nat.le_trans h2.m hg.size,fun i z hz=>?_,fun i y hy=>by simp at hy,h2.ll,fun i j x y _ hy=>by simp at hy,fun i j x y hx=>by simp at hx⟩;have h3:=h2.l i z hz
   exact⟨h3.1,(hg.block _ h3.2.lt (by intro e;injection e with e;exact key i z hz e)).trans h3.2⟩)
  clear hba hbb h1 hg hq HK HC HRs;go_wp2_with fail;exact Qf l ga gb w w1 HN dR rfl rfl rfl
 ·obtain⟨A1,n1,c1,hl1,dR⟩:=hk.own HK.out 2 rfl
  replace HK:=dR;have HN:=zH h1
  have hb:((n1:Int)==0)=true↔r=[]:=by
   rw[← hl1];simp[List.length_eq_zero_iff]
  have HB:=zH hb;clear dR h1 hk hq hl1 hb HC HRs;simp only[List.set,aK] at HK;unfold Sh.enc;go_wp2_with (refine bg (m:=x.n) (B:=x.q.A) (i:=x.q.n) (j:=x.q.c) (u:=x.t) HK 0 ?_;clear HK;intro _ HK;simp only[lS] at HK);have aj:=zH HK.out.drew;refine wp_region_noPanic ?_;refine wp_region_held_drew (S:=(fun W=>Hid (Kn w.heap.size w W [(ga,33,stA x.n x.q.A x.q.n x.q.c x.t)] [])∧Hid (Kn w.heap.size w W [(gr,95,#[.slice A1 n1 c1])] []))) (by kernel_rfl) ?_ fun ah=>?_
  ·(try dsimp only);exact(⟨zH ((aj.out.aB 1).ay 0),zH ((aj.out.aO 2).ay 0)⟩:_∧_)
  refine ak 0 rfl ?_ fun _ s=>lq s.1 0
  refine ak 1 rfl ?_;refine ak 2 rfl ?_;refine ak 3 rfl ?_;refine ak 4 rfl ?_ fun _ s=>aT s.2 53 _ (by rfl) 0 (by rfl) (by rfl) (v:=.slice A1 n1 c1) underlying53
  refine ak 5 rfl ?_;refine ak 6 rfl ?_;refine aC 7 rfl fun K hK=>?_
  refine gJ (m:=x.n) (B:=x.q.A) (i:=x.q.n) (j:=x.q.c) (u:=x.t) aj 0 ?_;clear aj;intro w7 aj;simp only[lS] at aj;have hs:=(⟨zH ((aj.out.aB 1).ay 0),zH ((aj.out.aO 2).ay 0)⟩:_∧_);refine bk hK hs fun ah=>?_
  clear hK K;refine aC 8 rfl fun K hK=>?_
  refine TD (d:=((n1:Int)==0)) aj 1 (by rfl) (by rfl) (by rfl) (by rfl) (by rfl) ?_;clear aj;intro w8 aj;simp only[lS] at aj;have hs:=(⟨zH ((aj.out.aB 1).ay 0),zH ((aj.out.aO 2).ay 0)⟩:_∧_);refine bk hK hs fun ah=>?_
  clear hK K;refine cB ?_
  all_goals
   refine NoPanic.normal ?_
   have HR:Hid (qy l w (.returned (.tuple #[.agg (stA x.n x.q.A x.q.n x.q.c x.t),.bool ((n1:Int)==0)])) _):=zH (by
    unfold qy;rw[HN.out]
    exact⟨x,_,rfl,HB.out,rfl,aj.out.aB 0⟩)
   clear HN HB HK;go_wp2_with fail;exact Qe l ga gb w aj HR rfl rfl rfl
end
end Go.Proofs.YtahdlddbbnjloaaGreat
