/- What snap's read returns: the state that items are, or that there is none. No condition but those named. -/
import Derived.Test.YtieoeendnccafaaGreatMTK
import Derived.Test.YtieoeendnccafaaGreatMBF
import Derived.Recover
set_option linter.unusedSimpArgs false
set_option linter.unusedVariables false
set_option maxRecDepth 100000
set_option maxHeartbeats 25600000
namespace Go.Proofs.YtieoeendnccafaaGreat
section
open Go.RowKit
def RpL{P:Program}{α:Type}(La:Lay P α)(p:Snp.P (List α))(g:Nat)(l:Snp.Its)(w:World)(e:Ending)(w':World):Prop:=match p l with
 | some (xs,r)=>∃A n c,e=.returned (.slice A n c)∧Rok g r [row La (.slice A n c) xs] w w'
 | none=>Rno g w e w'
section
variable {P:Program}{α:Type}{La:Lay P α}{p:Snp.P (List α)}{g:Nat}{l r:Snp.Its}{w w':World}{e:Ending}{xs:List α}
theorem RpL.split(h:RpL La p g l w e w'):(p l=none∧e=.panicked [{ v:=.iface 23 (.int .i64 3),recovered:=false }]∧w.grownBy w' (some g))∨∃xs r A n c,p l=some (xs,r)∧e=.returned (.slice A n c)∧Rok g r [row La (.slice A n c) xs] w w':=by
 unfold RpL at h
 split at h
 ·next x r hp=>
  obtain⟨A,n,c,h1,h2⟩:=h
  exact .inr ⟨x,r,A,n,c,hp,h1,h2⟩
 ·next hp=>exact .inl ⟨hp,h⟩
theorem RpL.yes{A:Option Addr}{n c:Nat}(hp:p l=some (xs,r))(h:Rok g r [row La (.slice A n c) xs] w w'):RpL La p g l w (.returned (.slice A n c)) w':=by
 unfold RpL
 rw[hp]
 exact⟨A,n,c,rfl,h⟩
theorem RpL.no(hp:p l=none)(h:w.grownBy w' (some g)):RpL La p g l w (.panicked [{ v:=.iface 23 (.int .i64 3),recovered:=false }]) w':=by
 unfold RpL
 rw[hp]
 exact⟨rfl,h⟩
end
theorem Rds.short{g:Nat}{l:Snp.Its}{w:World}(h:Rds g l w):l.length≤16384:=by
 obtain⟨A,n,c,_,_,hl,_,_,hn⟩:=h
 omega
theorem rlist_pr_any(g:Nat)(l:Snp.Its)(w:World)(h:Rds g l w):Calls Tryz.prog 218 #[.pointer (some ⟨g,0,none⟩),.func (.func 219) #[.pointer (some ⟨g,0,none⟩)] #[]] w (RpL prLay (Snp.lst false 8 Snp.prP) g l w):=by
 have HI:=zH rnum_any
 have HC:=zH rpr_any
 have HW:=zH (Rst.start h)
 have HK:=zH (Kn.start w)
 have HP:=zH (show Snp.lst false 8 Snp.prP l=Snp.bnd Snp.num (fun n=>if n<0∨(false=true∧8<n) then fun _=>none else Snp.rep Snp.prP n.toNat) l from rfl)
 clear h
 go_enter Tryz.func218,Tryz.ntmps218
 go_wp2_with fail
 refine(HI.out _ _ _ (HW.out.at HK.out)).mono ?_
 intro e w1 hq
 rcases hq.split with ⟨h1,rfl,hg⟩|⟨n,r0,h1,rfl,hk⟩
 ·have HG:=zH (grown_thru (HW.out.grown HK.out) hg);have HN:=zH (HP.out.trans (Snp.bnd_none h1));clear hg h1 hq;go_wp2_with fail;exact⟨rfl,RpL.no HN.out HG.out⟩
 obtain⟨W1,HW1,HK1⟩:=hk.join HW.out HK.out;replace HP:=zH (HP.out.trans (Snp.bnd_of h1));replace HW:=HW1;replace HK:=HK1;clear HW1 HK1 h1 hk hq;simp only[List.append_nil] at HK
 by_cases hneg:n<0
 ·have HN:=zH (Snp.lst_neg HP.out hneg)
  clear HP
  go_wp2_with fail
  exact⟨rfl,RpL.no HN.out (HW.out.grown HK.out)⟩
 obtain⟨N,rfl⟩:=Int.eq_ofNat_of_zero_le (show 0≤n by omega)
 replace HP:=zH (Snp.lst_pos HP.out)
 have HS:=zH HW.out.2.short
 clear hneg
 have hneg:¬((N:Int)<0):=by omega
 go_wp2_with (first|(refine wpList_mk0 prLay HK rfl rfl ?_;intro _ g2 HK';simp only[lnA] at HK';replace HK:=HK';clear HK'))
 clear hneg
 go_loopw [6,14] (fun vl vi wr=>∃(j:Nat) (A1:Option Addr) (c1:Nat) (xs:List Dct.Pr) (rc:Snp.Its) (W1:World),j≤N∧j≤16384∧vl=.slice A1 j c1∧vi=.int .i64 j∧Hid (xs.length=j)∧Hid (j+rc.length≤16384)∧Hid (Snp.lst false 8 Snp.prP l=Snp.bnd (Snp.rep Snp.prP (N-j)) (fun ys=>Snp.ret (xs++ys)) rc)∧Hid (Rst g w W1 rc)∧Hid (Kn w.heap.size W1 wr [] [row prLay (.slice A1 j c1) xs])) (fun _ vi _=>N-(intOf vi).toNat)
 case atStart=>exact⟨0,_,0,[],r0,_,Nat.zero_le _,Nat.zero_le _,rfl,rfl,zH rfl,zH (by have:=HS.out;omega),HP,HW,HK⟩
 case round=>
  clear HK HW HP HS
  obtain⟨j,A1,c1,xs,rc,W2,hj,hjb,rfl,rfl,HLx,HRc,HP,HW,HK⟩:=hrel
  by_cases hlt:j<N
  ·have HL2:Hid (xs.length+1≤9223372036854775807∧(xs.length+1)*prLay.bytes≤211106232532992):=zH (by
    rw[HLx.out]
    refine⟨by omega,?_⟩
    show(j+1)*56≤_
    omega)
   have HN2:Hid (∀y:Dct.Pr,(xs++[y]).length=j+1):=zH fun y=>by rw[List.length_append,HLx.out];rfl
   obtain⟨m,hm⟩:∃m,N-j=m+1:=⟨N-j-1,by omega⟩
   have HM:Hid (m=N-(j+1)):=zH (by omega)
   rw[hm,Snp.rep_step] at HP
   clear hm
   have hk2:(j:Int)<(N:Int):=by omega
   go_wp2_with fail
   refine(HC.out _ _ _ (HW.out.at HK.out)).mono ?_
   intro e w2 hq
   rcases hq.split with ⟨h1,rfl,hg⟩|⟨x,r1,h1,rfl,hk⟩
   ·have HG:=zH (grown_thru (HW.out.grown HK.out) hg);have HN:=zH (HP.out.trans (Snp.bnd_none h1));clear hg h1 hq;go_wp2_with fail;exact⟨rfl,RpL.no HN.out HG.out⟩
   have HE:=zH (Snp.prP_eats _ _ _ h1)
   obtain⟨W1,HW1,HK1⟩:=hk.join HW.out HK.out;replace HP:=zH (HP.out.trans (Snp.bnd_of h1));replace HW:=HW1;replace HK:=HK1;clear HW1 HK1 h1 hk hq;simp only[List.append_nil] at HK
   unfold prA prC
   go_wp2_with (first|(refine wpList_mk1 prLay (p:=x) HK (by decide) rfl _ rfl rfl rfl ?_;intro _ g5 HK';simp only[lcA,lnA] at HK';have HR:=zH (HK'.out.own 1 rfl).rd;replace HK:=HK';clear HK')|(at_builtin;refine wpList_kmore HK prLay 0 rfl _ _ rfl rfl rfl [x] rfl rfl HR HL2 (N:=j+1) (zH (HN2.out x)) ?_;intro A7 c7 _ HK';simp only[List.set] at HK';replace HK:=zH (HK'.out.takeR 1);simp only[List.take] at HK;clear HK' HR))
   have hjb2:j+1≤16384:=by have:=HRc.out;have:=HE.out;omega
   exact⟨⟨j+1,A7,c7,xs++[x],r1,_,by omega,hjb2,rfl,by go_num,zH (HN2.out x),zH (by have:=HRc.out;have:=HE.out;omega),zH (by rw[← HM.out];exact HP.out),HW,HK⟩,by simp[intOf];omega⟩
  ·obtain rfl:j=N:=by omega
   have HN:Hid (Snp.lst false 8 Snp.prP l=some (xs,rc)):=zH (by
    have e:=HP.out
    rw[Nat.sub_self,Snp.rep_done] at e
    exact e)
   clear HP
   go_wp2_with fail
   go_ret
   exact RpL.yes HN.out (Rok.mk HW.out HK.out)
theorem rlist_va_any(g:Nat)(l:Snp.Its)(w:World)(h:Rds g l w):Calls Tryz.prog 220 #[.pointer (some ⟨g,0,none⟩),.func (.func 221) #[.pointer (some ⟨g,0,none⟩)] #[]] w (RpL vaLay (Snp.lst false 8 Snp.val) g l w):=by
 have HI:=zH rnum_any
 have HC:=zH rval_any
 have HW:=zH (Rst.start h)
 have HK:=zH (Kn.start w)
 have HP:=zH (show Snp.lst false 8 Snp.val l=Snp.bnd Snp.num (fun n=>if n<0∨(false=true∧8<n) then fun _=>none else Snp.rep Snp.val n.toNat) l from rfl)
 clear h
 go_enter Tryz.func220,Tryz.ntmps220
 go_wp2_with fail
 refine(HI.out _ _ _ (HW.out.at HK.out)).mono ?_
 intro e w1 hq
 rcases hq.split with ⟨h1,rfl,hg⟩|⟨n,r0,h1,rfl,hk⟩
 ·have HG:=zH (grown_thru (HW.out.grown HK.out) hg);have HN:=zH (HP.out.trans (Snp.bnd_none h1));clear hg h1 hq;go_wp2_with fail;exact⟨rfl,RpL.no HN.out HG.out⟩
 obtain⟨W1,HW1,HK1⟩:=hk.join HW.out HK.out;replace HP:=zH (HP.out.trans (Snp.bnd_of h1));replace HW:=HW1;replace HK:=HK1;clear HW1 HK1 h1 hk hq;simp only[List.append_nil] at HK
 by_cases hneg:n<0
 ·have HN:=zH (Snp.lst_neg HP.out hneg)
  clear HP
  go_wp2_with fail
  exact⟨rfl,RpL.no HN.out (HW.out.grown HK.out)⟩
 obtain⟨N,rfl⟩:=Int.eq_ofNat_of_zero_le (show 0≤n by omega)
 replace HP:=zH (Snp.lst_pos HP.out)
 have HS:=zH HW.out.2.short
 clear hneg
 have hneg:¬((N:Int)<0):=by omega
 go_wp2_with (first|(refine wpList_mk0 vaLay HK rfl rfl ?_;intro _ g2 HK';simp only[lnA] at HK';replace HK:=HK';clear HK'))
 clear hneg
 go_loopw [6,14] (fun vl vi wr=>∃(j:Nat) (A1:Option Addr) (c1:Nat) (xs:List Val.V) (rc:Snp.Its) (W1:World),j≤N∧j≤16384∧vl=.slice A1 j c1∧vi=.int .i64 j∧Hid (xs.length=j)∧Hid (j+rc.length≤16384)∧Hid (Snp.lst false 8 Snp.val l=Snp.bnd (Snp.rep Snp.val (N-j)) (fun ys=>Snp.ret (xs++ys)) rc)∧Hid (Rst g w W1 rc)∧Hid (Kn w.heap.size W1 wr [] [row vaLay (.slice A1 j c1) xs])) (fun _ vi _=>N-(intOf vi).toNat)
 case atStart=>exact⟨0,_,0,[],r0,_,Nat.zero_le _,Nat.zero_le _,rfl,rfl,zH rfl,zH (by have:=HS.out;omega),HP,HW,HK⟩
 case round=>
  clear HK HW HP HS
  obtain⟨j,A1,c1,xs,rc,W2,hj,hjb,rfl,rfl,HLx,HRc,HP,HW,HK⟩:=hrel
  by_cases hlt:j<N
  ·have HL2:Hid (xs.length+1≤9223372036854775807∧(xs.length+1)*vaLay.bytes≤211106232532992):=zH (by
    rw[HLx.out]
    refine⟨by omega,?_⟩
    show(j+1)*40≤_
    omega)
   have HN2:Hid (∀y:Val.V,(xs++[y]).length=j+1):=zH fun y=>by rw[List.length_append,HLx.out];rfl
   obtain⟨m,hm⟩:∃m,N-j=m+1:=⟨N-j-1,by omega⟩
   have HM:Hid (m=N-(j+1)):=zH (by omega)
   rw[hm,Snp.rep_step] at HP
   clear hm
   have hk2:(j:Int)<(N:Int):=by omega
   go_wp2_with fail
   refine(HC.out _ _ _ (HW.out.at HK.out)).mono ?_
   intro e w2 hq
   rcases hq.split with ⟨h1,rfl,hg⟩|⟨x,r1,h1,rfl,hk⟩
   ·have HG:=zH (grown_thru (HW.out.grown HK.out) hg);have HN:=zH (HP.out.trans (Snp.bnd_none h1));clear hg h1 hq;go_wp2_with fail;exact⟨rfl,RpL.no HN.out HG.out⟩
   have HE:=zH (Snp.val_eats _ _ _ h1)
   obtain⟨W1,HW1,HK1⟩:=hk.join HW.out HK.out;replace HP:=zH (HP.out.trans (Snp.bnd_of h1));replace HW:=HW1;replace HK:=HK1;clear HW1 HK1 h1 hk hq;simp only[List.append_nil] at HK
   unfold vv
   go_wp2_with (first|(refine wpList_mk1 vaLay (p:=x) HK (by decide) rfl _ rfl rfl rfl ?_;intro _ g5 HK';simp only[lcA,lnA] at HK';have HR:=zH (HK'.out.own 1 rfl).rd;replace HK:=HK';clear HK')|(at_builtin;refine wpList_kmore HK vaLay 0 rfl _ _ rfl rfl rfl [x] rfl rfl HR HL2 (N:=j+1) (zH (HN2.out x)) ?_;intro A7 c7 _ HK';simp only[List.set] at HK';replace HK:=zH (HK'.out.takeR 1);simp only[List.take] at HK;clear HK' HR))
   have hjb2:j+1≤16384:=by have:=HRc.out;have:=HE.out;omega
   exact⟨⟨j+1,A7,c7,xs++[x],r1,_,by omega,hjb2,rfl,by go_num,zH (HN2.out x),zH (by have:=HRc.out;have:=HE.out;omega),zH (by rw[← HM.out];exact HP.out),HW,HK⟩,by simp[intOf];omega⟩
  ·obtain rfl:j=N:=by omega
   have HN:Hid (Snp.lst false 8 Snp.val l=some (xs,rc)):=zH (by
    have e:=HP.out
    rw[Nat.sub_self,Snp.rep_done] at e
    exact e)
   clear HP
   go_wp2_with fail
   go_ret
   exact RpL.yes HN.out (Rok.mk HW.out HK.out)
theorem rlist_rf_any(g:Nat)(l:Snp.Its)(w:World)(h:Rds g l w):Calls Tryz.prog 222 #[.pointer (some ⟨g,0,none⟩),.func (.func 223) #[.pointer (some ⟨g,0,none⟩)] #[]] w (RpL rfLay (Snp.lst false 5 Snp.rfP) g l w):=by
 have HI:=zH rnum_any
 have HC:=zH rref_any
 have HW:=zH (Rst.start h)
 have HK:=zH (Kn.start w)
 have HP:=zH (show Snp.lst false 5 Snp.rfP l=Snp.bnd Snp.num (fun n=>if n<0∨(false=true∧5<n) then fun _=>none else Snp.rep Snp.rfP n.toNat) l from rfl)
 clear h
 go_enter Tryz.func222,Tryz.ntmps222
 go_wp2_with fail
 refine(HI.out _ _ _ (HW.out.at HK.out)).mono ?_
 intro e w1 hq
 rcases hq.split with ⟨h1,rfl,hg⟩|⟨n,r0,h1,rfl,hk⟩
 ·have HG:=zH (grown_thru (HW.out.grown HK.out) hg);have HN:=zH (HP.out.trans (Snp.bnd_none h1));clear hg h1 hq;go_wp2_with fail;exact⟨rfl,RpL.no HN.out HG.out⟩
 obtain⟨W1,HW1,HK1⟩:=hk.join HW.out HK.out;replace HP:=zH (HP.out.trans (Snp.bnd_of h1));replace HW:=HW1;replace HK:=HK1;clear HW1 HK1 h1 hk hq;simp only[List.append_nil] at HK
 by_cases hneg:n<0
 ·have HN:=zH (Snp.lst_neg HP.out hneg)
  clear HP
  go_wp2_with fail
  exact⟨rfl,RpL.no HN.out (HW.out.grown HK.out)⟩
 obtain⟨N,rfl⟩:=Int.eq_ofNat_of_zero_le (show 0≤n by omega)
 replace HP:=zH (Snp.lst_pos HP.out)
 have HS:=zH HW.out.2.short
 clear hneg
 have hneg:¬((N:Int)<0):=by omega
 go_wp2_with (first|(refine wpList_mk0 rfLay HK rfl rfl ?_;intro _ g2 HK';simp only[lnA] at HK';replace HK:=HK';clear HK'))
 clear hneg
 go_loopw [6,14] (fun vl vi wr=>∃(j:Nat) (A1:Option Addr) (c1:Nat) (xs:List Rf) (rc:Snp.Its) (W1:World),j≤N∧j≤16384∧vl=.slice A1 j c1∧vi=.int .i64 j∧Hid (xs.length=j)∧Hid (j+rc.length≤16384)∧Hid (Snp.lst false 5 Snp.rfP l=Snp.bnd (Snp.rep Snp.rfP (N-j)) (fun ys=>Snp.ret (xs++ys)) rc)∧Hid (Rst g w W1 rc)∧Hid (Kn w.heap.size W1 wr [] [row rfLay (.slice A1 j c1) xs])) (fun _ vi _=>N-(intOf vi).toNat)
 case atStart=>exact⟨0,_,0,[],r0,_,Nat.zero_le _,Nat.zero_le _,rfl,rfl,zH rfl,zH (by have:=HS.out;omega),HP,HW,HK⟩
 case round=>
  clear HK HW HP HS
  obtain⟨j,A1,c1,xs,rc,W2,hj,hjb,rfl,rfl,HLx,HRc,HP,HW,HK⟩:=hrel
  by_cases hlt:j<N
  ·have HL2:Hid (xs.length+1≤9223372036854775807∧(xs.length+1)*rfLay.bytes≤211106232532992):=zH (by
    rw[HLx.out]
    refine⟨by omega,?_⟩
    show(j+1)*24≤_
    omega)
   have HN2:Hid (∀y:Rf,(xs++[y]).length=j+1):=zH fun y=>by rw[List.length_append,HLx.out];rfl
   obtain⟨m,hm⟩:∃m,N-j=m+1:=⟨N-j-1,by omega⟩
   have HM:Hid (m=N-(j+1)):=zH (by omega)
   rw[hm,Snp.rep_step] at HP
   clear hm
   have hk2:(j:Int)<(N:Int):=by omega
   go_wp2_with fail
   refine(HC.out _ _ _ (HW.out.at HK.out)).mono ?_
   intro e w2 hq
   rcases hq.split with ⟨h1,rfl,hg⟩|⟨x,r1,h1,rfl,hk⟩
   ·have HG:=zH (grown_thru (HW.out.grown HK.out) hg);have HN:=zH (HP.out.trans (Snp.bnd_none h1));clear hg h1 hq;go_wp2_with fail;exact⟨rfl,RpL.no HN.out HG.out⟩
   have HE:=zH (Snp.rfP_eats _ _ _ h1)
   obtain⟨W1,HW1,HK1⟩:=hk.join HW.out HK.out;replace HP:=zH (HP.out.trans (Snp.bnd_of h1));replace HW:=HW1;replace HK:=HK1;clear HW1 HK1 h1 hk hq;simp only[List.append_nil] at HK
   unfold rv
   go_wp2_with (first|(refine wpList_mk1 rfLay (p:=x) HK (by decide) rfl _ rfl rfl rfl ?_;intro _ g5 HK';simp only[lcA,lnA] at HK';have HR:=zH (HK'.out.own 1 rfl).rd;replace HK:=HK';clear HK')|(at_builtin;refine wpList_kmore HK rfLay 0 rfl _ _ rfl rfl rfl [x] rfl rfl HR HL2 (N:=j+1) (zH (HN2.out x)) ?_;intro A7 c7 _ HK';simp only[List.set] at HK';replace HK:=zH (HK'.out.takeR 1);simp only[List.take] at HK;clear HK' HR))
   have hjb2:j+1≤16384:=by have:=HRc.out;have:=HE.out;omega
   exact⟨⟨j+1,A7,c7,xs++[x],r1,_,by omega,hjb2,rfl,by go_num,zH (HN2.out x),zH (by have:=HRc.out;have:=HE.out;omega),zH (by rw[← HM.out];exact HP.out),HW,HK⟩,by simp[intOf];omega⟩
  ·obtain rfl:j=N:=by omega
   have HN:Hid (Snp.lst false 5 Snp.rfP l=some (xs,rc)):=zH (by
    have e:=HP.out
    rw[Nat.sub_self,Snp.rep_done] at e
    exact e)
   clear HP
   go_wp2_with fail
   go_ret
   exact RpL.yes HN.out (Rok.mk HW.out HK.out)
end
section
open Go.RowKit
def RpQ{α β:Type}(p:Snp.P α)(v:β→α)(enc:β→Value)(rows:β→List RowE)(g:Nat)(l:Snp.Its)(w:World)(e:Ending)(w':World):Prop:=match p l with
 | some (o,r)=>∃x:β,v x=o∧e=.returned (enc x)∧Rok g r (rows x) w w'
 | none=>Rno g w e w'
section
variable {α β:Type}{p:Snp.P α}{v:β→α}{enc:β→Value}{rows:β→List RowE}{g:Nat}{l r:Snp.Its}{w w':World}{e:Ending}
theorem RpQ.split(h:RpQ p v enc rows g l w e w'):(p l=none∧e=.panicked [{ v:=.iface 23 (.int .i64 3),recovered:=false }]∧w.grownBy w' (some g))∨∃x r,p l=some (v x,r)∧e=.returned (enc x)∧Rok g r (rows x) w w':=by
 unfold RpQ at h
 split at h
 ·next o r hp=>
  obtain⟨x,rfl,h1,h2⟩:=h
  exact .inr ⟨x,r,hp,h1,h2⟩
 ·next hp=>exact .inl ⟨hp,h⟩
theorem RpQ.yes(x:β)(hp:p l=some (v x,r))(h:Rok g r (rows x) w w'):RpQ p v enc rows g l w (.returned (enc x)) w':=by
 unfold RpQ
 rw[hp]
 exact⟨x,rfl,rfl,h⟩
theorem RpQ.no(hp:p l=none)(h:w.grownBy w' (some g)):RpQ p v enc rows g l w (.panicked [{ v:=.iface 23 (.int .i64 3),recovered:=false }]) w':=by
 unfold RpQ
 rw[hp]
 exact⟨rfl,h⟩
end
structure Ol where
 A:Option Addr
 n:Nat
 c:Nat
 l:List Oh
def olRows(q:Ol):List RowE:=row obLay (.slice q.A q.n q.c) q.l::q.l.flatMap rows3
structure Sh where
 n:Int
 q:Ol
 t:Ses.T
def Sh.v(x:Sh):Ap.St:=⟨x.n,vs x.q.l,x.t⟩
def Sh.enc(x:Sh):Value:=.agg (stA x.n x.q.A x.q.n x.q.c x.t)
theorem robj_any(g:Nat)(l:Snp.Its)(w:World)(h:Rds g l w):Calls Tryz.prog 174 #[.pointer (some ⟨g,0,none⟩)] w (RpQ (Snp.obP false) (fun x:Oh=>x.v) (fun x=>.agg (obA x)) rows3 g l w):=by
 have HT:=zH rtext_any
 have HN_:=zH rnum_any
 have HLp:=zH rlist_pr_any
 have HLv:=zH rlist_va_any
 have HLr:=zH rlist_rf_any
 have HM_:=zH rmt_any
 have HW:=zH (Rst.start h)
 have HK:=zH (Kn.start w)
 have HP:=zH (show Snp.obP false l=(Snp.bnd Snp.txt fun a=>Snp.bnd Snp.num fun k=>Snp.bnd Snp.num fun p=>Snp.bnd Snp.num fun d=>Snp.bnd (Snp.lst false 8 Snp.prP) fun ps=>Snp.bnd (Snp.lst false 8 Snp.val) fun vs=>Snp.bnd (Snp.lst false 5 Snp.rfP) fun rs=>Snp.bnd Snp.mtP fun m=>Snp.ret ⟨a,k,p,ps,vs,rs,d,m⟩) l from rfl)
 have hmf:∀(fn:Fn) (first cap:Array Value) (w:World),(Instr.makeFunc fn first cap).run Tryz.prog w=.ok (.func fn first cap) w:=fun _ _ _ _=>rfl
 clear h
 go_enter Tryz.func174,Tryz.ntmps174
 go_wp2_with (first|(refine wpList_aob HK rfl rfl ?_;intro _ g1 HK';simp only[lnA] at HK';replace HK:=HK';clear HK'))
 refine(HT.out _ _ _ (HW.out.at HK.out)).mono ?_;intro e w1 hq
 rcases hq.split with ⟨h1,rfl,hg⟩|⟨a,r1,h1,rfl,hk⟩
 ·have HG:=zH (grown_thru (HW.out.grown HK.out) hg);have HN:=zH (HP.out.trans (Snp.bnd_none h1));clear hg h1 hq;go_wp2_with fail;exact⟨rfl,RpQ.no HN.out HG.out⟩
 obtain⟨W1,HW1,HK1⟩:=hk.join HW.out HK.out;replace HP:=zH (HP.out.trans (Snp.bnd_of h1));replace HW:=HW1;replace HK:=HK1;clear HW1 HK1 h1 hk hq;simp only[List.append_nil] at HK
 go_wp2_with fail
 refine(HN_.out _ _ _ (HW.out.at HK.out)).mono ?_;intro e w1 hq
 rcases hq.split with ⟨h1,rfl,hg⟩|⟨k,r2,h1,rfl,hk⟩
 ·have HG:=zH (grown_thru (HW.out.grown HK.out) hg);have HN:=zH (HP.out.trans (Snp.bnd_none h1));clear hg h1 hq;go_wp2_with fail;exact⟨rfl,RpQ.no HN.out HG.out⟩
 obtain⟨W1,HW1,HK1⟩:=hk.join HW.out HK.out;replace HP:=zH (HP.out.trans (Snp.bnd_of h1));replace HW:=HW1;replace HK:=HK1;clear HW1 HK1 h1 hk hq;simp only[List.append_nil] at HK
 go_wp2_with fail
 refine(HN_.out _ _ _ (HW.out.at HK.out)).mono ?_;intro e w1 hq
 rcases hq.split with ⟨h1,rfl,hg⟩|⟨p,r3,h1,rfl,hk⟩
 ·have HG:=zH (grown_thru (HW.out.grown HK.out) hg);have HN:=zH (HP.out.trans (Snp.bnd_none h1));clear hg h1 hq;go_wp2_with fail;exact⟨rfl,RpQ.no HN.out HG.out⟩
 obtain⟨W1,HW1,HK1⟩:=hk.join HW.out HK.out;replace HP:=zH (HP.out.trans (Snp.bnd_of h1));replace HW:=HW1;replace HK:=HK1;clear HW1 HK1 h1 hk hq;simp only[List.append_nil] at HK
 go_wp2_with fail
 refine(HN_.out _ _ _ (HW.out.at HK.out)).mono ?_;intro e w1 hq
 rcases hq.split with ⟨h1,rfl,hg⟩|⟨d,r4,h1,rfl,hk⟩
 ·have HG:=zH (grown_thru (HW.out.grown HK.out) hg);have HN:=zH (HP.out.trans (Snp.bnd_none h1));clear hg h1 hq;go_wp2_with fail;exact⟨rfl,RpQ.no HN.out HG.out⟩
 obtain⟨W1,HW1,HK1⟩:=hk.join HW.out HK.out;replace HP:=zH (HP.out.trans (Snp.bnd_of h1));replace HW:=HW1;replace HK:=HK1;clear HW1 HK1 h1 hk hq;simp only[List.append_nil] at HK
 go_wp2_with fail
 refine(HLp.out _ _ _ (HW.out.at HK.out)).mono ?_;intro e w1 hq
 rcases hq.split with ⟨h1,rfl,hg⟩|⟨ps,r5,A1,n1,c1,h1,rfl,hk⟩
 ·have HG:=zH (grown_thru (HW.out.grown HK.out) hg);have HN:=zH (HP.out.trans (Snp.bnd_none h1));clear hg h1 hq;go_wp2_with fail;exact⟨rfl,RpQ.no HN.out HG.out⟩
 obtain⟨W1,HW1,HK1⟩:=hk.join HW.out HK.out;replace HP:=zH (HP.out.trans (Snp.bnd_of h1));replace HW:=HW1;replace HK:=HK1;clear HW1 HK1 h1 hk hq;simp only[lnA,lcA] at HK
 go_wp2_with fail
 refine(HLv.out _ _ _ (HW.out.at HK.out)).mono ?_;intro e w1 hq
 rcases hq.split with ⟨h1,rfl,hg⟩|⟨vl,r6,A2,n2,c2,h1,rfl,hk⟩
 ·have HG:=zH (grown_thru (HW.out.grown HK.out) hg);have HN:=zH (HP.out.trans (Snp.bnd_none h1));clear hg h1 hq;go_wp2_with fail;exact⟨rfl,RpQ.no HN.out HG.out⟩
 obtain⟨W1,HW1,HK1⟩:=hk.join HW.out HK.out;replace HP:=zH (HP.out.trans (Snp.bnd_of h1));replace HW:=HW1;replace HK:=HK1;clear HW1 HK1 h1 hk hq;simp only[lnA,lcA] at HK
 go_wp2_with fail
 refine(HLr.out _ _ _ (HW.out.at HK.out)).mono ?_;intro e w1 hq
 rcases hq.split with ⟨h1,rfl,hg⟩|⟨rs,r7,A3,n3,c3,h1,rfl,hk⟩
 ·have HG:=zH (grown_thru (HW.out.grown HK.out) hg);have HN:=zH (HP.out.trans (Snp.bnd_none h1));clear hg h1 hq;go_wp2_with fail;exact⟨rfl,RpQ.no HN.out HG.out⟩
 obtain⟨W1,HW1,HK1⟩:=hk.join HW.out HK.out;replace HP:=zH (HP.out.trans (Snp.bnd_of h1));replace HW:=HW1;replace HK:=HK1;clear HW1 HK1 h1 hk hq;simp only[lnA,lcA] at HK
 go_wp2_with fail
 refine(HM_.out _ _ _ (HW.out.at HK.out)).mono ?_;intro e w1 hq
 rcases hq.split with ⟨h1,rfl,hg⟩|⟨m,r8,h1,rfl,hk⟩
 ·have HG:=zH (grown_thru (HW.out.grown HK.out) hg);have HN:=zH (HP.out.trans (Snp.bnd_none h1));clear hg h1 hq;go_wp2_with fail;exact⟨rfl,RpQ.no HN.out HG.out⟩
 obtain⟨W1,HW1,HK1⟩:=hk.join HW.out HK.out;replace HP:=zH (HP.out.trans (Snp.bnd_of h1));replace HW:=HW1;replace HK:=HK1;clear HW1 HK1 h1 hk hq;simp only[List.append_nil] at HK
 go_wp2_with (first|(refine wpList_sob (x:=ohZ) (y:=⟨⟨a,k,p,ps,vl,rs,d,m⟩,A1,n1,c1,A2,n2,c2,A3,n3,c3⟩) HK 0 rfl _ _ rfl rfl rfl rfl ?_;intro _ HK';simp only[List.set] at HK';replace HK:=HK';clear HK'))
 exact ret_c Tryz.results174 rfl rfl (HK.out.blk 0 rfl) Tryz.underlying63 info_ob (RpQ.yes (⟨⟨a,k,p,ps,vl,rs,d,m⟩,A1,n1,c1,A2,n2,c2,A3,n3,c3⟩:Oh) HP.out (Rok.mk HW.out HK.out))
theorem rlist_ob_any(g:Nat)(l:Snp.Its)(w:World)(h:Rds g l w):Calls Tryz.prog 173 #[.pointer (some ⟨g,0,none⟩),.func (.func 174) #[.pointer (some ⟨g,0,none⟩)] #[]] w (RpQ (Snp.lst false 8 (Snp.obP false)) (fun q:Ol=>vs q.l) (fun q=>.slice q.A q.n q.c) olRows g l w):=by
 have HI:=zH rnum_any
 have HC:=zH robj_any
 have HW:=zH (Rst.start h)
 have HK:=zH (Kn.start w)
 have HP:=zH (show Snp.lst false 8 (Snp.obP false) l=Snp.bnd Snp.num (fun n=>if n<0∨(false=true∧8<n) then fun _=>none else Snp.rep (Snp.obP false) n.toNat) l from rfl)
 clear h
 go_enter Tryz.func173,Tryz.ntmps173
 go_wp2_with fail
 refine(HI.out _ _ _ (HW.out.at HK.out)).mono ?_
 intro e w1 hq
 rcases hq.split with ⟨h1,rfl,hg⟩|⟨n,r0,h1,rfl,hk⟩
 ·have HG:=zH (grown_thru (HW.out.grown HK.out) hg);have HN:=zH (HP.out.trans (Snp.bnd_none h1));clear hg h1 hq;go_wp2_with fail;exact⟨rfl,RpQ.no HN.out HG.out⟩
 obtain⟨W1,HW1,HK1⟩:=hk.join HW.out HK.out;replace HP:=zH (HP.out.trans (Snp.bnd_of h1));replace HW:=HW1;replace HK:=HK1;clear HW1 HK1 h1 hk hq;simp only[List.append_nil] at HK
 by_cases hneg:n<0
 ·have HN:=zH (Snp.lst_neg HP.out hneg)
  clear HP
  go_wp2_with fail
  exact⟨rfl,RpQ.no HN.out (HW.out.grown HK.out)⟩
 obtain⟨N,rfl⟩:=Int.eq_ofNat_of_zero_le (show 0≤n by omega)
 replace HP:=zH (Snp.lst_pos HP.out)
 have HS:=zH HW.out.2.short
 clear hneg
 have hneg:¬((N:Int)<0):=by omega
 go_wp2_with (first|(refine wpList_mk0 obLay HK rfl rfl ?_;intro _ g2 HK';simp only[lnA] at HK';replace HK:=HK';clear HK'))
 clear hneg
 go_loopw [6,14] (fun vl vi wr=>∃(j:Nat) (A1:Option Addr) (c1:Nat) (xs:List Oh) (rc:Snp.Its) (W1:World),j≤N∧j≤16384∧vl=.slice A1 j c1∧vi=.int .i64 j∧Hid (xs.length=j)∧Hid (j+rc.length≤16384)∧Hid (Snp.lst false 8 (Snp.obP false) l=Snp.bnd (Snp.rep (Snp.obP false) (N-j)) (fun ys=>Snp.ret (vs xs++ys)) rc)∧Hid (Rst g w W1 rc)∧Hid (Kn w.heap.size W1 wr [] (row obLay (.slice A1 j c1) xs::xs.flatMap rows3))) (fun _ vi _=>N-(intOf vi).toNat)
 case atStart=>exact⟨0,_,0,[],r0,_,Nat.zero_le _,Nat.zero_le _,rfl,rfl,zH rfl,zH (by have:=HS.out;omega),HP,HW,HK⟩
 case round=>
  clear HK HW HP HS
  obtain⟨j,A1,c1,xs,rc,W2,hj,hjb,rfl,rfl,HLx,HRc,HP,HW,HK⟩:=hrel
  by_cases hlt:j<N
  ·have HL2:Hid (xs.length+1≤9223372036854775807∧(xs.length+1)*obLay.bytes≤211106232532992):=zH (by
    rw[HLx.out]
    refine⟨by omega,?_⟩
    show(j+1)*144≤_
    omega)
   have HN2:Hid (∀y:Oh,(xs++[y]).length=j+1):=zH fun y=>by rw[List.length_append,HLx.out];rfl
   obtain⟨m,hm⟩:∃m,N-j=m+1:=⟨N-j-1,by omega⟩
   have HM:Hid (m=N-(j+1)):=zH (by omega)
   rw[hm,Snp.rep_step] at HP
   clear hm
   have hk2:(j:Int)<(N:Int):=by omega
   go_wp2_with fail
   refine(HC.out _ _ _ (HW.out.at HK.out)).mono ?_
   intro e w2 hq
   rcases hq.split with ⟨h1,rfl,hg⟩|⟨x,r1,h1,rfl,hk⟩
   ·have HG:=zH (grown_thru (HW.out.grown HK.out) hg);have HN:=zH (HP.out.trans (Snp.bnd_none h1));clear hg h1 hq;go_wp2_with fail;exact⟨rfl,RpQ.no HN.out HG.out⟩
   have HE:=zH (Snp.obP_eats false _ _ _ h1)
   obtain⟨W1,HW1,HK1⟩:=hk.join HW.out HK.out
   replace HP:=zH (HP.out.trans (Snp.bnd_of h1));replace HW:=HW1;replace HK:=HK1;clear HW1 HK1 h1 hk hq
   have HVs:Hid (vs xs++[x.v]=vs (xs++[x])):=zH (by unfold vs;rw[List.map_append];rfl)
   have HRw:Hid ((xs++[x]).flatMap rows3=xs.flatMap rows3++rows3 x):=zH (by rw[List.flatMap_append];simp)
   simp only[lcA] at HK
   rw[← HRw.out] at HK
   go_wp2_with (first|(refine wpList_mk1 obLay (p:=x) HK (by decide) rfl _ rfl rfl rfl ?_;intro _ g5 HK';have HR:=zH (Kn.lastOwn HK'.out).rd;simp only[lcA] at HK';replace HK:=HK';clear HK')|(at_builtin;refine wpList_kmore HK obLay 0 rfl _ _ rfl rfl rfl [x] rfl rfl HR HL2 (N:=j+1) (zH (HN2.out x)) ?_;intro A7 c7 _ HK';simp only[List.set] at HK';rw[← lcA] at HK';replace HK:=zH HK'.out.init;clear HK' HR))
   have hjb2:j+1≤16384:=by have:=HRc.out;have:=HE.out;omega
   exact⟨⟨j+1,A7,c7,xs++[x],r1,_,by omega,hjb2,rfl,by go_num,zH (HN2.out x),zH (by have:=HRc.out;have:=HE.out;omega),zH (by rw[← HM.out,← HVs.out];exact HP.out),HW,HK⟩,by simp[intOf];omega⟩
  ·obtain rfl:j=N:=by omega
   have HN:Hid (Snp.lst false 8 (Snp.obP false) l=some (vs xs,rc)):=zH (by
    have e:=HP.out
    rw[Nat.sub_self,Snp.rep_done] at e
    exact e)
   clear HP
   go_wp2_with fail
   go_ret
   exact RpQ.yes (⟨A1,j,c1,xs⟩:Ol) HN.out (Rok.mk HW.out HK.out)
section
variable {w:World}{o:Oper}{a:Act}
theorem exec_bst0(ho:o.op=.build 33 #[]):
  (execOp a.eval o).run Tryz.prog w=.ok (.value (.agg (stA 0 none 0 0 tz))) w:=by
 have h:(Instr.build 33 #[]).run Tryz.prog w=.ok (.agg (stA 0 none 0 0 tz)) w:=by
  unfold stA tz Ses.z Sto.rz
  go_simp
 unfold execOp
 simp only[ho,Sem.run_bind,Sem.run_pure,Result.andThen_ok,List.map_toArray,List.map_cons,List.map_nil,h]
theorem exec_bst2{n:Int}{A:Option Addr}{k c:Nat}(x y:Operand)(ho:o.op=.build 33 #[(0,x),(1,y)])(hx:a.eval x=.int .i64 n)(hy:a.eval y=.slice A k c):
  (execOp a.eval o).run Tryz.prog w=.ok (.value (.agg (stA n A k c tz))) w:=by
 have h:(Instr.build 33 #[(0,.int .i64 n),(1,.slice A k c)]).run Tryz.prog w=.ok (.agg (stA n A k c tz)) w:=by
  unfold stA tz Ses.z Sto.rz
  go_simp
 unfold execOp
 simp only[ho,Sem.run_bind,Sem.run_pure,Result.andThen_ok,List.map_toArray,List.map_cons,List.map_nil,hx,hy,h]
end
theorem st_put2{i:Int}(hi:0≤i∧i<5)(n:Int)(A:Option Addr)(k c:Nat)(t:Ses.T)(s:Ses.S):putCells (stA n A k c t) (2+i.toNat*9) (seA s).toList=stA n A k c (t.set i s):=by
 rcases Ses.cases5 hi with rfl|rfl|rfl|rfl|rfl<;>kernel_rfl
theorem wpList_sts{b0:Nat}{w0 w:World}{L:List (Nat×TypeId×Array Value)}{R:List RowE}{ops:Array Oper}{rest:List Oper}{o:Oper}{a:Act}{Q:Exit→Act→World→Prop}{g:Nat}{n:Int}{A:Option Addr}{k c:Nat}{t:Ses.T}{s:Ses.S}{q:Int}(HK:Hid (Kn b0 w0 w L R))(i:Nat)(hq:0≤q∧q<5)(hgd:o.guard=none)(x y:Operand)(ho:o.op=.store 30 x y)(hL:L[i]?=some (g,33,stA n A k c t))(hx:a.eval x=.pointer (some ⟨g,2+q.toNat*9,none⟩))(hy:a.eval y=.agg (seA s))
  (h:∀w',Hid (Kn b0 w0 w' (L.set i (g,33,stA n A k c (t.set q s))) R)→wpList Tryz.prog ops Q rest (a.put o.dst undef) w'):wpList Tryz.prog ops Q (o::rest) a w:=
 wpList_ss HK i hgd _ x y ho hL hx hy (by show 2+q.toNat*9+9≤47;omega) info_se (by simp[seA,Value.oneCell']) fun w' h1 _=>h w' (by
  rw[st_put2 hq] at h1
  exact h1)
theorem Snp.bnd_assoc{α β γ:Type}(p:Snp.P α)(f:α→Snp.P β)(k:β→Snp.P γ)(l:Snp.Its):Snp.bnd (Snp.bnd p f) k l=Snp.bnd p (fun a=>Snp.bnd (f a) k) l:=by
 cases h:p l with
 | none=>unfold Snp.bnd;simp only[h]
 | some z=>
  obtain⟨x,r⟩:=z
  unfold Snp.bnd
  simp only[h]
def Snp.tbR(t:Ses.T):Nat→Snp.P Ses.T
 | 0=>Snp.ret t
 | m+1=>Snp.bnd Snp.seP fun s=>Snp.tbR (t.set ((4-m:Nat):Int) s) m
theorem Snp.tbR_step(t:Ses.T){i:Nat}(hi:i<5):Snp.tbR t (5-i)=Snp.bnd Snp.seP fun s=>Snp.tbR (t.set (i:Int) s) (5-(i+1)):=by
 match i,hi with
 | 0,_=>rfl
 | 1,_=>rfl
 | 2,_=>rfl
 | 3,_=>rfl
 | 4,_=>rfl
theorem rstate_any(g:Nat)(l:Snp.Its)(w:World)(h:Rds g l w):Calls Tryz.prog 104 #[.pointer (some ⟨g,0,none⟩)] w (RpQ (Snp.stP false) Sh.v Sh.enc (fun x=>olRows x.q) g l w):=by
 have HI:=zH rnum_any
 have HLo:=zH rlist_ob_any
 have HSe:=zH rse_any
 have HW:=zH (Rst.start h)
 have HK:=zH (Kn.start w)
 have HP:=zH (show Snp.stP false l=(Snp.bnd Snp.num fun n=>Snp.bnd (Snp.lst false 8 (Snp.obP false)) fun lo=>Snp.bnd Snp.tbP fun t=>Snp.ret ⟨n,lo,t⟩) l from rfl)
 have hmf:∀(fn:Fn) (first cap:Array Value) (w:World),(Instr.makeFunc fn first cap).run Tryz.prog w=.ok (.func fn first cap) w:=fun _ _ _ _=>rfl
 clear h
 go_enter Tryz.func104,Tryz.ntmps104
 go_wp2_with (first|(refine wpList_ast HK rfl rfl ?_;intro _ g1 HK';simp only[lnA] at HK';replace HK:=HK';clear HK'))
 refine(HI.out _ _ _ (HW.out.at HK.out)).mono ?_;intro e w1 hq
 rcases hq.split with ⟨h1,rfl,hg⟩|⟨n,r1,h1,rfl,hk⟩
 ·have HG:=zH (grown_thru (HW.out.grown HK.out) hg);have HN:=zH (HP.out.trans (Snp.bnd_none h1));clear hg h1 hq;go_wp2_with fail;exact⟨rfl,RpQ.no HN.out HG.out⟩
 obtain⟨W1,HW1,HK1⟩:=hk.join HW.out HK.out;replace HP:=zH (HP.out.trans (Snp.bnd_of h1));replace HW:=HW1;replace HK:=HK1;clear HW1 HK1 h1 hk hq;simp only[List.append_nil] at HK
 go_wp2_with fail
 refine(HLo.out _ _ _ (HW.out.at HK.out)).mono ?_;intro e w1 hq
 rcases hq.split with ⟨h1,rfl,hg⟩|⟨q,r2,h1,rfl,hk⟩
 ·have HG:=zH (grown_thru (HW.out.grown HK.out) hg);have HN:=zH (HP.out.trans (Snp.bnd_none h1));clear hg h1 hq;go_wp2_with fail;exact⟨rfl,RpQ.no HN.out HG.out⟩
 obtain⟨W1,HW1,HK1⟩:=hk.join HW.out HK.out;replace HP:=zH (HP.out.trans (Snp.bnd_of h1));replace HW:=HW1;replace HK:=HK1;clear HW1 HK1 h1 hk hq;simp only[lnA,lcA] at HK
 go_wp2_with (first|refine zX (exec_bst2 (n:=n) (A:=q.A) (k:=q.n) (c:=q.c) _ _ (by rfl) (by rfl) (by rfl)) ?_|(refine wpList_ast HK rfl rfl ?_;intro _ g3 HK';simp only[lcA,lnA] at HK';replace HK:=HK';clear HK')|(refine wpList_sst (m:=n) (B:=q.A) (i:=q.n) (j:=q.c) (u:=tz) HK 1 rfl _ _ rfl rfl rfl rfl ?_;intro _ HK';simp only[List.set] at HK';replace HK:=HK';clear HK'))
 have HP2:Hid (Snp.stP false l=Snp.bnd (Snp.tbR tz (5-0)) (fun t=>Snp.ret ⟨n,vs q.l,t⟩) r2):=zH HP.out
 clear HP
 go_loopw [12] (fun vi wr=>∃(i:Nat) (t:Ses.T) (rc:Snp.Its) (W1:World),i≤5∧vi=.int .i64 i∧Hid (Snp.stP false l=Snp.bnd (Snp.tbR t (5-i)) (fun t=>Snp.ret ⟨n,vs q.l,t⟩) rc)∧Hid (Rst g w W1 rc)∧Hid (Kn w.heap.size W1 wr [(g1,33,stA 0 none 0 0 tz),(g3,33,stA n q.A q.n q.c t)] (olRows q))) (fun vi _=>5-(intOf vi).toNat)
 case atStart=>exact⟨0,tz,r2,_,Nat.zero_le _,rfl,HP2,HW,HK⟩
 case round=>
  clear HK HW HP2
  obtain⟨i,t,rc,W2,hi,rfl,HP,HW,HK⟩:=hrel
  by_cases hlt:i<5
  ·rw[Snp.tbR_step t hlt] at HP
   replace HP:Hid (Snp.stP false l=Snp.bnd Snp.seP (fun s=>Snp.bnd (Snp.tbR (t.set (i:Int) s) (5-(i+1))) (fun t=>Snp.ret ⟨n,vs q.l,t⟩)) rc):=zH (HP.out.trans (Snp.bnd_assoc _ _ _ _))
   have hk1:(0:Int)≤(i:Int):=by omega
   have hk2:(i:Int)<5:=by omega
   go_wp2_with fail
   refine(HSe.out _ _ _ (HW.out.at HK.out)).mono ?_
   intro e w2 hq
   rcases hq.split with ⟨h1,rfl,hg⟩|⟨s,r1,h1,rfl,hk⟩
   ·have HG:=zH (grown_thru (HW.out.grown HK.out) hg);have HN:=zH (HP.out.trans (Snp.bnd_none h1));clear hg h1 hq;go_wp2_with fail;exact⟨rfl,RpQ.no HN.out HG.out⟩
   obtain⟨W1,HW1,HK1⟩:=hk.join HW.out HK.out;replace HP:=zH (HP.out.trans (Snp.bnd_of h1));replace HW:=HW1;replace HK:=HK1;clear HW1 HK1 h1 hk hq;simp only[List.append_nil] at HK
   go_wp2_with (first|refine zX (exec_ixq (q1:=(i:Int)) ⟨hk1,hk2⟩ _ _ (by rfl) (by rfl) (by rfl)) ?_|(refine wpList_sts (s:=s) (q:=(i:Int)) HK 1 ⟨hk1,hk2⟩ rfl _ _ rfl rfl rfl rfl ?_;intro _ HK';simp only[List.set] at HK';replace HK:=HK';clear HK'))
   exact⟨⟨i+1,t.set (i:Int) s,r1,_,by omega,by go_num,HP,HW,HK⟩,by simp[intOf];omega⟩
  ·obtain rfl:i=5:=by omega
   have HN:Hid (Snp.stP false l=some (⟨n,vs q.l,t⟩,rc)):=zH HP.out
   clear HP
   go_wp2_with (first|refine zX (kst HK 1 _ (by rfl) (by rfl) (by rfl)) ?_|(refine wpList_sst (m:=n) (B:=q.A) (i:=q.n) (j:=q.c) (u:=t) HK 0 rfl _ _ rfl rfl rfl rfl ?_;intro _ HK';simp only[List.set] at HK';replace HK:=HK';clear HK'))
   exact ret_st Tryz.results104 rfl rfl (HK.out.blk 0 rfl) (RpQ.yes (⟨n,q,t⟩:Sh) HN.out (Rok.mk HW.out HK.out))
end
section
open Go.RowKit
theorem info_b1:(Tryz.prog.info? 4).map (·.size)=some 1:=by kernel_rfl
section
variable {b0:Nat}{w0 w:World}{L:List (Nat×TypeId×Array Value)}{R:List RowE}{ops:Array Oper}{rest:List Oper}{o:Oper}{a:Act}{Q:Exit→Act→World→Prop}{K:Act→World→Prop}{E:Prop}{g:Nat}{q d:Bool}
theorem wpList_abo(HK:Hid (Kn b0 w0 w L R))(hgd:o.guard=none)(ho:o.op=.alloc 4)
  (h:∀w' g,Hid (Kn b0 w0 w' (L++[(g,4,#[.bool false])]) R)→wpList Tryz.prog ops Q rest (a.put o.dst (.pointer (some ⟨g,0,none⟩))) w'):wpList Tryz.prog ops Q (o::rest) a w:=
 wpList_plain hgd fun K hK=>by
  have h4:=h _ w.heap.size (zH (HK.out.alloc _ _))
  unfold Oper.wp execOp
  simp only[ho]
  go_simp
  exact hK _ _ h4
theorem wpList_brd{A:Option Addr}{n c:Nat}(HK:Hid (Kn b0 w0 w L R))(hgd:o.guard=none)(x:Operand)(ho:o.op=.box 142 x)(hx:a.eval x=.agg #[.slice A n c])
  (h:∀w' g,Hid (Kn b0 w0 w' (L++[(g,142,#[.slice A n c])]) R)→wpList Tryz.prog ops Q rest (a.put o.dst (.pointer (some ⟨g,0,none⟩))) w'):wpList Tryz.prog ops Q (o::rest) a w:=
 wpList_plain hgd fun K hK=>by
  have h4:=h _ w.heap.size (zH (HK.out.alloc _ _))
  unfold Oper.wp execOp
  simp only[ho,hx]
  go_simp
  exact hK _ _ h4
theorem wpList_sbo(HK:Hid (Kn b0 w0 w L R))(i:Nat)(hgd:o.guard=none)(x y:Operand)(ho:o.op=.store 4 x y)(hL:L[i]?=some (g,4,#[.bool q]))(hx:a.eval x=.pointer (some ⟨g,0,none⟩))(hy:a.eval y=.bool d)
  (h:∀w',Hid (Kn b0 w0 w' (L.set i (g,4,#[.bool d])) R)→wpList Tryz.prog ops Q rest (a.put o.dst undef) w'):wpList Tryz.prog ops Q (o::rest) a w:=
 wpList_sc HK i hgd _ x y ho hL hx hy rfl rfl (by show 0<1;decide) info_b1 fun w' h1 _=>h w' h1
theorem step_sbo(HK:Hid (Kn b0 w0 w L R))(i:Nat)(hgd:o.guard=none)(x y:Operand)(ho:o.op=.store 4 x y)(hL:L[i]?=some (g,4,#[.bool q]))(hx:a.eval x=.pointer (some ⟨g,0,none⟩))(hy:a.eval y=.bool d)
  (h:∀w',Hid (Kn b0 w0 w' (L.set i (g,4,#[.bool d])) R)→K (a.put o.dst undef) w'):if Region.wanted o (yielded ops a.tmps)=true then Oper.wp Tryz.prog o a w K Q else E:=by
 rw[if_pos (by simp[Region.wanted,hgd])]
 exact kwp_sc HK _ x y ho i hL hx hy rfl rfl (by show 0<1;decide) info_b1 fun w' h1 _=>h w' h1
end
theorem Rok.own{b0:Nat}{w0 wc w1:World}{L:List (Nat×TypeId×Array Value)}{R Rn:List RowE}{g:Nat}{r:Snp.Its}{cs:Array Value}(k:Kn b0 w0 wc L R)(i:Nat)(hi:L[i]?=some (g,142,cs))(q:Rok g r Rn wc w1):
  ∃(A:Option Addr) (n c:Nat),r.length=n∧Hid (Kn b0 w0 w1 (L.set i (g,142,#[.slice A n c])) (R++Rn)):=by
 obtain⟨V,⟨vb,A,n,c,hb,_,hl,_⟩,kv⟩:=q
 have hg:=(k.l i _ hi).1
 refine⟨A,n,c,hl,zH (Kn.join ?_ (by rw[vb.size];exact kv))⟩
 exact k.setL hi ⟨vb.os,vb.tape,vb.output,by rw[vb.size];exact Nat.le_refl _,fun j hj=>vb.block j (by omega)⟩ vb.size hb fun hk hne=>(vb.block _ hne).trans hk
theorem rcatch_pan(ga gb:Nat)(n:Int)(A:Option Addr)(k c:Nat)(t:Ses.T)(q:Bool)(b0:Nat)(w0 w:World)(HK:Hid (Kn b0 w0 w [(ga,33,stA n A k c t),(gb,4,#[.bool q])] [])):
  CallsD Tryz.prog 103 #[.pointer (some ⟨ga,0,none⟩),.pointer (some ⟨gb,0,none⟩)] (.panicking [{ v:=.iface 23 (.int .i64 3),recovered:=false }]) w fun e u' w'=>
   e=.returned (.tuple #[])∧u'=.panicking [{ v:=.iface 23 (.int .i64 3),recovered:=true }]∧Hid (Kn b0 w0 w' [(ga,33,stA 0 none 0 0 tz),(gb,4,#[.bool false])] []):=by
 refine callsD_of_wpS Tryz.func103 rfl fun c₀ cs hu=>?_
 apply wpS_seq
 apply wpS_region
 simp[wpOpsS,go_sem,recoverD,hu,Tryz.ntmps103,Exit.thenS]
 refine wpS_cond (t:=true) (by simp[Act.eval,Array.replicate]) ?_
 simp only[if_true]
 refine wpS_of_wp ?_
 go_wp2_with (first|refine zX (exec_bst0 (by rfl)) ?_|(refine wpList_sst (m:=0) (B:=none) (i:=0) (j:=0) (u:=tz) HK 0 rfl _ _ rfl rfl rfl rfl ?_;intro _ HK';simp only[List.set] at HK';replace HK:=HK';clear HK')|(refine wpList_sbo (d:=false) HK 1 rfl _ _ rfl rfl rfl rfl ?_;intro _ HK';simp only[List.set] at HK';replace HK:=HK';clear HK'))
 simp[bodyPostS,results,Tryz.results103]
 exact HK
theorem rcatch_idle(a b:Nat)(w:World):
  CallsD Tryz.prog 103 #[.pointer (some ⟨a,0,none⟩),.pointer (some ⟨b,0,none⟩)] .returning w fun e u' w'=>e=.returned (.tuple #[])∧u'=.returning∧w'=w:=by
 refine callsD_of_wpS Tryz.func103 rfl fun c₀ cs hu=>?_
 apply wpS_seq
 apply wpS_region
 simp[wpOpsS,go_sem,recoverD,hu,Tryz.ntmps103,Exit.thenS]
 refine wpS_cond (t:=false) (by simp[Act.eval,Array.replicate]) ?_
 simp only[Bool.false_eq_true,if_false]
 refine wpS_of_wp (wp_skip ?_)
 cases c₀
 simp_all [bodyPostS,results,Tryz.results103]
def IsRead(l:Snp.Its)(w:World)(e:Ending)(w':World):Prop:=match Snp.stP false l with
 | some (s,r)=>∃(x:Sh) (b:Bool),x.v=s∧(b=true↔r=[])∧e=.returned (.tuple #[x.enc,.bool b])∧Kn w.heap.size w w' [] (olRows x.q)
 | none=>e=.returned (.tuple #[.agg (stA 0 none 0 0 tz),.bool false])∧Below w.heap.size w w'
theorem load_st{ga:Nat}{n:Int}{A:Option Addr}{k c:Nat}{t:Ses.T}{w:World}(h:Blk w ga 33 (stA n A k c t)):(loadVar 33 ⟨ga,0,none⟩).run Tryz.prog w=.ok (.agg (stA n A k c t)) w:=
 run_loadVar_row (P:=Tryz.prog) w ga _ _ _ (0,0) _ h Tryz.underlying33 rfl info_st
theorem load_b1{gb:Nat}{q:Bool}{w:World}(h:Blk w gb 4 #[.bool q]):(loadVar 4 ⟨gb,0,none⟩).run Tryz.prog w=.ok (.bool q) w:=by
 have hc:w.cell? ⟨gb,0,none⟩=some (.bool q):=h.cell 0
 have hagg:(isAgg 4).run Tryz.prog w=.ok false w:=by
  unfold isAgg
  rw[Sem.run_bind,run_underlying Tryz.underlying4 w]
  rfl
 simp[loadVar,Sem.run_bind,hagg,hc]
theorem rdoor_pan(l:Snp.Its)(ga gb:Nat)(w w1:World)(HN:Hid (Snp.stP false l=none))(n:Int)(A:Option Addr)(k c:Nat)(t:Ses.T)(q:Bool)(HK:Hid (Kn w.heap.size w w1 [(ga,33,stA n A k c t),(gb,4,#[.bool q])] []))(a:Act)
  (hd:a.defers=[{ target:=.fn (.func 103) #[.pointer (some ⟨ga,0,none⟩),.pointer (some ⟨gb,0,none⟩)],args:=#[] }])
  (h2:a.tmps.getD 2 undef=.pointer (some ⟨ga,0,none⟩)) (h3:a.tmps.getD 3 undef=.pointer (some ⟨gb,0,none⟩)) :
  bodyPostD Tryz.prog Tryz.f51 (IsRead l w) (Exit.panic [{ v:=.iface 23 (.int .i64 3),recovered:=false }]) a w1:=by
 obtain⟨tmps,defers⟩:=a
 simp only at hd h2 h3
 subst hd
 show Leaves _ _ _ _ _ _ _
 refine leaves_cons (f:=103) (args:=#[.pointer (some ⟨ga,0,none⟩),.pointer (some ⟨gb,0,none⟩)]) (by simp) (by simp[go_sem]) ?_
 refine(rcatch_pan ga gb n A k c t q _ _ _ HK).mono ?_
 rintro e u' w'' ⟨rfl,rfl,HK2⟩
 have FIN:Hid (IsRead l w (.returned (.tuple #[.agg (stA 0 none 0 0 tz),.bool false])) w''):=zH (by
  unfold IsRead
  rw[HN.out]
  exact⟨rfl,HK2.out.b⟩)
 have hS:=load_st (HK2.out.blk 0 rfl)
 have k2:=load_b1 (HK2.out.blk 1 rfl)
 clear HK HK2 HN
 have h2':tmps[2]?.getD undef=.pointer (some ⟨ga,0,none⟩):=by simpa using h2
 have h3':tmps[3]?.getD undef=.pointer (some ⟨gb,0,none⟩):=by simpa using h3
 generalize stA 0 none 0 0 tz=z at *
 simp[Leaves,settle,results,Tryz.results51,asAddr,Sem.run_bind,h2',h3',hS,k2]
 exact FIN.out
theorem rdoor_ret(l:Snp.Its)(ga gb:Nat)(w w1:World)(n:Int)(A:Option Addr)(k c:Nat)(t:Ses.T)(q:Bool)(L:List (Nat×TypeId×Array Value))(R:List RowE)(HK:Hid (Kn w.heap.size w w1 ((ga,33,stA n A k c t)::(gb,4,#[.bool q])::L) R))
  (HR:Hid (IsRead l w (.returned (.tuple #[.agg (stA n A k c t),.bool q])) w1)) (a:Act)
  (hd:a.defers=[{ target:=.fn (.func 103) #[.pointer (some ⟨ga,0,none⟩),.pointer (some ⟨gb,0,none⟩)],args:=#[] }])
  (h2:a.tmps.getD 2 undef=.pointer (some ⟨ga,0,none⟩)) (h3:a.tmps.getD 3 undef=.pointer (some ⟨gb,0,none⟩)) :
  bodyPostD Tryz.prog Tryz.f51 (IsRead l w) Exit.ret a w1:=by
 obtain⟨tmps,defers⟩:=a
 simp only at hd h2 h3
 subst hd
 show Leaves _ _ _ _ _ _ _
 refine leaves_cons (f:=103) (args:=#[.pointer (some ⟨ga,0,none⟩),.pointer (some ⟨gb,0,none⟩)]) (by simp) (by simp[go_sem]) ?_
 refine(rcatch_idle ga gb _).mono ?_
 rintro e u' w'' ⟨rfl,rfl,rfl⟩
 have hS:=load_st (HK.out.blk 0 rfl)
 have k2:=load_b1 (HK.out.blk 1 rfl)
 clear HK
 have h2':tmps[2]?.getD undef=.pointer (some ⟨ga,0,none⟩):=by simpa using h2
 have h3':tmps[3]?.getD undef=.pointer (some ⟨gb,0,none⟩):=by simpa using h3
 generalize stA n A k c t=z at *
 simp[Leaves,settle,results,Tryz.results51,asAddr,Sem.run_bind,h2',h3',hS,k2]
 exact HR.out
theorem rread_any(A:Option Addr)(n c:Nat)(l:Snp.Its)(w:World)(hr:itemLay.Reads w w.heap.size A l)(hl:l.length=n)(hA:A=none→l=[])(hc:n≤c)(hn:n≤16384):Calls Tryz.prog 51 #[.slice A n c] w (IsRead l w):=by
 have hmf:∀(fn:Fn) (first cap:Array Value) (w:World),(Instr.makeFunc fn first cap).run Tryz.prog w=.ok (.func fn first cap) w:=fun _ _ _ _=>rfl
 have HRs:Hid (∀W g,Below w.heap.size w W→w.heap.size≤g→Blk W g 142 #[.slice A n c]→Rds g l W):=zH fun W g hW hg hb=>⟨A,n,c,hb,(hr.below hW).more hg,hl,hA,hc,hn⟩
 have HC:=zH rstate_any
 have HK:=zH (Kn.start w)
 clear hr hl hA hc hn
 go_enter_defers Tryz.func51,Tryz.ntmps51
 go_wp2_with (first|(refine wpList_ast HK rfl rfl ?_;intro _ ga HK';simp only[lnA] at HK';replace HK:=HK';clear HK')|(refine wpList_abo HK rfl rfl ?_;intro _ gb HK';simp only[lcA,lnA] at HK';replace HK:=HK';clear HK')|(refine wpList_brd HK rfl _ rfl rfl ?_;intro _ gr HK';simp only[lcA,lnA] at HK';replace HK:=HK';clear HK'))
 refine(HC.out gr l _ (HRs.out _ _ HK.out.b (HK.out.l 2 _ rfl).1 (HK.out.blk 2 rfl))).mono ?_
 intro e w1 hq
 rcases hq.split with ⟨h1,rfl,hg⟩|⟨x,r,h1,rfl,hk⟩
 ·have HN:=zH h1
  have hba:=HK.out.ll 0 2 _ _ rfl rfl (by decide)
  have hbb:=HK.out.ll 1 2 _ _ rfl rfl (by decide)
  have HK1:Hid (Kn w.heap.size w w1 [(ga,33,stA 0 none 0 0 tz),(gb,4,#[.bool false])] []):=zH (by
   have h2:=HK.out.takeL 2
   have hl0:=(HK.out.l 0 _ rfl).1
   have hl1:=(HK.out.l 1 _ rfl).1
   have hl2:=(HK.out.l 2 _ rfl).1
   have key:∀(i:Nat) z,[(ga,33,stA 0 none 0 0 tz),(gb,4,#[Value.bool false])][i]?=some z→¬z.1=gr:=fun i z hz=>by
    match i,hz with
    | 0,hz=>cases hz;exact hba
    | 1,hz=>cases hz;exact hbb
   refine⟨h2.b.trans ⟨hg.os,hg.tape,hg.output,hg.size,fun j hj=>hg.block j (Nat.lt_of_lt_of_le hj h2.m) (by intro e;injection e with e;subst e;exact absurd hl2 (by simp only;omega))⟩,Nat.le_trans h2.m hg.size,fun i z hz=>?_,fun i y hy=>by simp at hy,h2.ll,fun i j x y _ hy=>by simp at hy,fun i j x y hx=>by simp at hx⟩
   have h3:=h2.l i z hz
   exact⟨h3.1,(hg.block _ h3.2.lt (by intro e;injection e with e;exact key i z hz e)).trans h3.2⟩)
  clear hba hbb h1 hg hq HK HC HRs
  go_wp2_with fail
  exact rdoor_pan l ga gb w w1 HN _ _ _ _ _ _ HK1 _ rfl rfl rfl
 ·obtain⟨A1,n1,c1,hl1,HK1⟩:=hk.own HK.out 2 rfl
  replace HK:=HK1
  have HN:=zH h1
  have hb:((n1:Int)==0)=true↔r=[]:=by
   rw[← hl1]
   simp[List.length_eq_zero_iff]
  have HB:=zH hb
  clear HK1 h1 hk hq hl1 hb HC HRs
  simp only[List.set,lnA] at HK
  unfold Sh.enc
  go_wp2_with (first|(refine wpList_sst (m:=x.n) (B:=x.q.A) (i:=x.q.n) (j:=x.q.c) (u:=x.t) HK 0 rfl _ _ rfl rfl rfl rfl ?_;intro _ HK';simp only[List.set] at HK';replace HK:=HK';clear HK'))
  have HK0:=zH HK.out.drew
  refine wp_region_noPanic ?_
  refine wp_region_held_drew (S:=(fun W=>Hid (Kn w.heap.size w W [(ga,33,stA x.n x.q.A x.q.n x.q.c x.t)] [])∧Hid (Kn w.heap.size w W [(gr,142,#[.slice A1 n1 c1])] []))) (by kernel_rfl) ?_ (fun hHeld=>?_)
  ·(try dsimp only);exact(⟨zH ((HK0.out.takeL 1).takeR 0),zH ((HK0.out.dropL 2).takeR 0)⟩:_∧_)
  refine stk 0 11 rfl ?_ (fun w hSw=>kst hSw.1 0 _ (by rfl) (by rfl) (by rfl))
  refine stk 1 12 rfl ?_
  refine stk 2 13 rfl ?_
  refine stk 3 14 rfl ?_
  refine stk 4 15 rfl ?_ (fun w hSw=>kexec_lc hSw.2 84 _ (by rfl) 0 (by rfl) (by rfl) (v:=.slice A1 n1 c1) (by rfl) Tryz.underlying84 rfl)
  refine stk 5 16 rfl ?_
  refine stk 6 17 rfl ?_
  refine srd1 7 none rfl (fun K hK=>?_)
  refine step_sst (m:=x.n) (B:=x.q.A) (i:=x.q.n) (j:=x.q.c) (u:=x.t) HK0 0 (by rfl) _ _ (by rfl) (by rfl) (by rfl) (by rfl) ?_;intro w7 HK';simp only[List.set] at HK';replace HK0:=HK';clear HK';have hs:=(⟨zH ((HK0.out.takeL 1).takeR 0),zH ((HK0.out.dropL 2).takeR 0)⟩:_∧_)
  refine hK.out _ _ hs (fun hHeld=>?_)
  clear hK K
  try simp only[ap1,ap2,ap3,ap4,ap5]
  refine srd1 8 none rfl (fun K hK=>?_)
  refine step_sbo (d:=((n1:Int)==0)) HK0 1 (by rfl) _ _ (by rfl) (by rfl) (by rfl) (by rfl) ?_;intro w8 HK';simp only[List.set] at HK';replace HK0:=HK';clear HK';have hs:=(⟨zH ((HK0.out.takeL 1).takeR 0),zH ((HK0.out.dropL 2).takeR 0)⟩:_∧_)
  refine hK.out _ _ hs (fun hHeld=>?_)
  clear hK K
  try simp only[ap1,ap2,ap3,ap4,ap5]
  refine wpAnyH_done (by kernel_rfl) ?_ _
  all_goals
   refine NoPanic.normal ?_
   have HR:Hid (IsRead l w (.returned (.tuple #[.agg (stA x.n x.q.A x.q.n x.q.c x.t),.bool ((n1:Int)==0)])) _):=zH (by
    unfold IsRead
    rw[HN.out]
    exact⟨x,_,rfl,HB.out,rfl,HK0.out.takeL 0⟩)
   clear HN HB HK
   go_wp2_with fail
   exact rdoor_ret l ga gb w _ _ _ _ _ _ _ _ _ HK0 HR _ rfl rfl rfl
end
end Go.Proofs.YtieoeendnccafaaGreat
