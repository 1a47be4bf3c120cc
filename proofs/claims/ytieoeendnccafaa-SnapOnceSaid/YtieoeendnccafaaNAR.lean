/- What snap's object and items return: an object's items, a state's. No condition but those named. -/
import Derived.Test.YtieoeendnccafaaNTK
import Derived.Test.YtieoeendnccafaaNAQ
set_option linter.unusedSimpArgs false
set_option linter.unusedVariables false
set_option maxRecDepth 100000
set_option maxHeartbeats 25600000
namespace Go.Proofs.Ytieoeendnccafaa
section
open Go.RowKit
def Snp.mk{α:Type}(n:Nat)(f:α→Snp.Its)(l:List α)(k:Nat):Snp.Its:=Snp.n1 n::(l.take k).flatMap f
theorem Snp.mk_more{α:Type}(n:Nat)(f:α→Snp.Its){l:List α}{k:Nat}{x:α}(h:l[k]?=some x):Snp.mk n f l (k+1)=Snp.mk n f l k++f x:=by
 unfold Snp.mk
 rw[Lay.take_succ h,List.flatMap_append]
 simp
theorem Snp.mk_all{α:Type}(n:Nat)(f:α→Snp.Its){l:List α}(h:l.length=n):Snp.mk n f l n=Snp.many f l:=by
 unfold Snp.mk Snp.many
 rw[← h,List.take_length]
theorem many_pr_any(f:Dct.Pr→Snp.Its)(A:Option Addr)(n c:Nat)(l:List Dct.Pr)(w:World)(hs:Sls prLay prF w A n c l)(hn:n≤8)
  (hp:∀x∈l,∀W,Below w.heap.size w W→Calls Try.prog 53 #[.agg (prLay.f x).toArray] W (IsLg itemLay (f x) W)) (hl:∀x∈l,(f x).length≤70) :
  Calls Try.prog 52 #[.slice A n c,.func (.func 53) #[] #[]] w (IsLg itemLay (Snp.many f l) w):=by
 have HS:=zH hs
 have HLen:=zH hs.len
 have HNm:=zH nnum_any
 have HP:=zH hp
 have HPl:=zH hl
 have HAll:=zH (Snp.mk_all n f hs.len)
 have HMore:=zH (fun(k:Nat) (x:Dct.Pr) (h:l[k]?=some x)=>Snp.mk_more n f h)
 have HZ:Hid (Snp.mk n f l 0=[Snp.n1 n]):=zH rfl
 have HK:=zH (Kn.start w)
 unfold IsI at HNm
 unfold IsLg at HP ⊢
 rw[← HAll.out]
 clear hs hp hl HAll
 generalize Snp.mk n f l=M at *
 go_enter Try.func52,Try.ntmps52
 go_wp2_with fail
 refine(HNm.out _ _).mono ?_;rintro e w1 ⟨rfl,b1⟩
 replace HK:=hkC HK b1
 clear b1
 go_wp2_with (first|(refine wpList_mk1 itemLay (p:=Snp.n1 n) HK (by decide) rfl _ rfl rfl rfl ?_;intro _ g2 HK';simp only[lnA] at HK';replace HK:=HK';clear HK'))
 go_loopw [5,14] (fun vl vi wr=>∃(k:Nat) (A1:Option Addr) (N1 c1:Nat),k≤n∧vl=.slice A1 N1 c1∧vi=.int .i64 k∧Hid (N1≤1+k*70)∧Hid ((M k).length=N1)∧Hid (Kn w.heap.size w wr [] [row itemLay (.slice A1 N1 c1) (M k)])) (fun _ vi _=>n-(intOf vi).toNat)
 case atStart=>exact⟨0,_,1,1,Nat.zero_le _,rfl,rfl,zH (by omega),zH (by rw[HZ.out];rfl),by rw[HZ.out];exact HK⟩
 case round=>
  clear HK
  obtain⟨k,A1,N1,c1,hk,rfl,rfl,HB1,HM,HK⟩:=hrel
  by_cases hlt:k<n
  ·obtain⟨x,hx⟩:=Lay.get_of (l:=l) (k:=k) (by rw[HLen.out];exact hlt)
   have hsl:Sls prLay prF wr A n c l:=HS.out.later HK.out.b
   obtain⟨b,o,rfl,hat⟩:=hsl.at (Nat.lt_of_le_of_lt (Nat.zero_le _) hlt)
   have HX:Hid (∀j v,(prLay.f x)[j]?=some v→wr.cell? ⟨b,o+k*5+j,none⟩=some v):=zH (hat wr (Below.refl _ _) k x hx)
   have HPx:=zH (HP.out x (List.mem_of_getElem? hx))
   have hPl:=HPl.out x (List.mem_of_getElem? hx)
   have HM1:=zH (HMore.out k x hx)
   have HN2:Hid ((M k++f x).length=N1+(f x).length):=zH (by rw[List.length_append,HM.out])
   have hB1:=HB1.out
   have HL2:=grow_ok (La:=itemLay) HN2 (by show(N1+(f x).length)*32≤_;omega) (by omega)
   have HB2:Hid (N1+(f x).length≤1+(k+1)*70):=zH (by omega)
   clear hsl hat hx hPl hB1
   have hk1:(0:Int)≤(k:Int):=by omega
   have hk2:(k:Int)<(n:Int):=by omega
   go_wp2_with (first|refine wpList_exe (exec_slx prLay (off:=o) (i:=k) _ _ (by rfl) (by rfl) (by rfl) hlt) (by rfl) ?_|refine wpList_exe (exec_slv prLay (off:=o+k*5) (x:=x) _ (by rfl) (by rfl) Try.underlying101 HX.out) (by rfl) ?_|(refine wpList_ak prLay HK rfl rfl ?_;intro _ g5 HK';simp only[lnA] at HK';replace HK:=HK';clear HK')|(refine wpList_st prLay (p2:=x) HK 0 rfl _ _ rfl rfl rfl rfl rfl ?_;intro _ HK';simp only[List.set] at HK';replace HK:=HK';clear HK')|refine wpList_exe (kexec_ld prLay (p:=x) Try.underlying101 HK 0 _ (by rfl) (by rfl) (by rfl)) (by rfl) ?_)
   refine(HPx.out _ HK.out.b).mono ?_;rintro e w2 ⟨A5,n5,c5,rfl,o5,b5⟩
   have HI5:=zH (Lay.Own.reads o5).1
   replace HK:=zH (HK.out.called b5 o5)
   simp only[lcA,lnA] at HK
   clear o5 b5
   have HR:=zH (HK.out.own 1 rfl).rd
   go_wp2_with (first|(at_builtin;refine wpList_kmore HK itemLay 0 rfl _ _ rfl rfl rfl (f x) rfl HI5.out HR HL2 (N:=N1+(f x).length) HN2 ?_;intro A7 c7 _ HK';simp only[List.set] at HK';replace HK:=HK';clear HK'))
   refine⟨⟨k+1,A7,_,c7,by omega,rfl,by go_num,HB2,zH (by rw[HM1.out];exact HN2.out),zH ?_⟩,by simp[intOf];omega⟩
   rw[HM1.out]
   exact(HK.out.takeL 0).takeR 1
  ·obtain rfl:k=n:=by omega
   go_wp2_with fail
   go_ret
   exact⟨_,_,_,rfl,HK.out.own 0 rfl,HK.out.b⟩
theorem many_va_any(f:Val.V→Snp.Its)(A:Option Addr)(n c:Nat)(l:List Val.V)(w:World)(hs:Sls vaLay vF w A n c l)(hn:n≤8)
  (hp:∀x∈l,∀W,Below w.heap.size w W→Calls Try.prog 55 #[.agg (vaLay.f x).toArray] W (IsLg itemLay (f x) W)) (hl:∀x∈l,(f x).length≤70) :
  Calls Try.prog 54 #[.slice A n c,.func (.func 55) #[] #[]] w (IsLg itemLay (Snp.many f l) w):=by
 have HS:=zH hs
 have HLen:=zH hs.len
 have HNm:=zH nnum_any
 have HP:=zH hp
 have HPl:=zH hl
 have HAll:=zH (Snp.mk_all n f hs.len)
 have HMore:=zH (fun(k:Nat) (x:Val.V) (h:l[k]?=some x)=>Snp.mk_more n f h)
 have HZ:Hid (Snp.mk n f l 0=[Snp.n1 n]):=zH rfl
 have HK:=zH (Kn.start w)
 unfold IsI at HNm
 unfold IsLg at HP ⊢
 rw[← HAll.out]
 clear hs hp hl HAll
 generalize Snp.mk n f l=M at *
 go_enter Try.func54,Try.ntmps54
 go_wp2_with fail
 refine(HNm.out _ _).mono ?_;rintro e w1 ⟨rfl,b1⟩
 replace HK:=hkC HK b1
 clear b1
 go_wp2_with (first|(refine wpList_mk1 itemLay (p:=Snp.n1 n) HK (by decide) rfl _ rfl rfl rfl ?_;intro _ g2 HK';simp only[lnA] at HK';replace HK:=HK';clear HK'))
 go_loopw [5,14] (fun vl vi wr=>∃(k:Nat) (A1:Option Addr) (N1 c1:Nat),k≤n∧vl=.slice A1 N1 c1∧vi=.int .i64 k∧Hid (N1≤1+k*70)∧Hid ((M k).length=N1)∧Hid (Kn w.heap.size w wr [] [row itemLay (.slice A1 N1 c1) (M k)])) (fun _ vi _=>n-(intOf vi).toNat)
 case atStart=>exact⟨0,_,1,1,Nat.zero_le _,rfl,rfl,zH (by omega),zH (by rw[HZ.out];rfl),by rw[HZ.out];exact HK⟩
 case round=>
  clear HK
  obtain⟨k,A1,N1,c1,hk,rfl,rfl,HB1,HM,HK⟩:=hrel
  by_cases hlt:k<n
  ·obtain⟨x,hx⟩:=Lay.get_of (l:=l) (k:=k) (by rw[HLen.out];exact hlt)
   have hsl:Sls vaLay vF wr A n c l:=HS.out.later HK.out.b
   obtain⟨b,o,rfl,hat⟩:=hsl.at (Nat.lt_of_le_of_lt (Nat.zero_le _) hlt)
   have HX:Hid (∀j v,(vaLay.f x)[j]?=some v→wr.cell? ⟨b,o+k*4+j,none⟩=some v):=zH (hat wr (Below.refl _ _) k x hx)
   have HPx:=zH (HP.out x (List.mem_of_getElem? hx))
   have hPl:=HPl.out x (List.mem_of_getElem? hx)
   have HM1:=zH (HMore.out k x hx)
   have HN2:Hid ((M k++f x).length=N1+(f x).length):=zH (by rw[List.length_append,HM.out])
   have hB1:=HB1.out
   have HL2:=grow_ok (La:=itemLay) HN2 (by show(N1+(f x).length)*32≤_;omega) (by omega)
   have HB2:Hid (N1+(f x).length≤1+(k+1)*70):=zH (by omega)
   clear hsl hat hx hPl hB1
   have hk1:(0:Int)≤(k:Int):=by omega
   have hk2:(k:Int)<(n:Int):=by omega
   go_wp2_with (first|refine wpList_exe (exec_slx vaLay (off:=o) (i:=k) _ _ (by rfl) (by rfl) (by rfl) hlt) (by rfl) ?_|refine wpList_exe (exec_slv vaLay (off:=o+k*4) (x:=x) _ (by rfl) (by rfl) Try.underlying26 HX.out) (by rfl) ?_|(refine wpList_ak vaLay HK rfl rfl ?_;intro _ g5 HK';simp only[lnA] at HK';replace HK:=HK';clear HK')|(refine wpList_st vaLay (p2:=x) HK 0 rfl _ _ rfl rfl rfl rfl rfl ?_;intro _ HK';simp only[List.set] at HK';replace HK:=HK';clear HK')|refine wpList_exe (kexec_ld vaLay (p:=x) Try.underlying26 HK 0 _ (by rfl) (by rfl) (by rfl)) (by rfl) ?_)
   refine(HPx.out _ HK.out.b).mono ?_;rintro e w2 ⟨A5,n5,c5,rfl,o5,b5⟩
   have HI5:=zH (Lay.Own.reads o5).1
   replace HK:=zH (HK.out.called b5 o5)
   simp only[lcA,lnA] at HK
   clear o5 b5
   have HR:=zH (HK.out.own 1 rfl).rd
   go_wp2_with (first|(at_builtin;refine wpList_kmore HK itemLay 0 rfl _ _ rfl rfl rfl (f x) rfl HI5.out HR HL2 (N:=N1+(f x).length) HN2 ?_;intro A7 c7 _ HK';simp only[List.set] at HK';replace HK:=HK';clear HK'))
   refine⟨⟨k+1,A7,_,c7,by omega,rfl,by go_num,HB2,zH (by rw[HM1.out];exact HN2.out),zH ?_⟩,by simp[intOf];omega⟩
   rw[HM1.out]
   exact(HK.out.takeL 0).takeR 1
  ·obtain rfl:k=n:=by omega
   go_wp2_with fail
   go_ret
   exact⟨_,_,_,rfl,HK.out.own 0 rfl,HK.out.b⟩
theorem many_rf_any(f:Rf→Snp.Its)(A:Option Addr)(n c:Nat)(l:List Rf)(w:World)(hs:Sls rfLay rF w A n c l)(hn:n≤8)
  (hp:∀x∈l,∀W,Below w.heap.size w W→Calls Try.prog 57 #[.agg (rfLay.f x).toArray] W (IsLg itemLay (f x) W)) (hl:∀x∈l,(f x).length≤70) :
  Calls Try.prog 56 #[.slice A n c,.func (.func 57) #[] #[]] w (IsLg itemLay (Snp.many f l) w):=by
 have HS:=zH hs
 have HLen:=zH hs.len
 have HNm:=zH nnum_any
 have HP:=zH hp
 have HPl:=zH hl
 have HAll:=zH (Snp.mk_all n f hs.len)
 have HMore:=zH (fun(k:Nat) (x:Rf) (h:l[k]?=some x)=>Snp.mk_more n f h)
 have HZ:Hid (Snp.mk n f l 0=[Snp.n1 n]):=zH rfl
 have HK:=zH (Kn.start w)
 unfold IsI at HNm
 unfold IsLg at HP ⊢
 rw[← HAll.out]
 clear hs hp hl HAll
 generalize Snp.mk n f l=M at *
 go_enter Try.func56,Try.ntmps56
 go_wp2_with fail
 refine(HNm.out _ _).mono ?_;rintro e w1 ⟨rfl,b1⟩
 replace HK:=hkC HK b1
 clear b1
 go_wp2_with (first|(refine wpList_mk1 itemLay (p:=Snp.n1 n) HK (by decide) rfl _ rfl rfl rfl ?_;intro _ g2 HK';simp only[lnA] at HK';replace HK:=HK';clear HK'))
 go_loopw [5,14] (fun vl vi wr=>∃(k:Nat) (A1:Option Addr) (N1 c1:Nat),k≤n∧vl=.slice A1 N1 c1∧vi=.int .i64 k∧Hid (N1≤1+k*70)∧Hid ((M k).length=N1)∧Hid (Kn w.heap.size w wr [] [row itemLay (.slice A1 N1 c1) (M k)])) (fun _ vi _=>n-(intOf vi).toNat)
 case atStart=>exact⟨0,_,1,1,Nat.zero_le _,rfl,rfl,zH (by omega),zH (by rw[HZ.out];rfl),by rw[HZ.out];exact HK⟩
 case round=>
  clear HK
  obtain⟨k,A1,N1,c1,hk,rfl,rfl,HB1,HM,HK⟩:=hrel
  by_cases hlt:k<n
  ·obtain⟨x,hx⟩:=Lay.get_of (l:=l) (k:=k) (by rw[HLen.out];exact hlt)
   have hsl:Sls rfLay rF wr A n c l:=HS.out.later HK.out.b
   obtain⟨b,o,rfl,hat⟩:=hsl.at (Nat.lt_of_le_of_lt (Nat.zero_le _) hlt)
   have HX:Hid (∀j v,(rfLay.f x)[j]?=some v→wr.cell? ⟨b,o+k*3+j,none⟩=some v):=zH (hat wr (Below.refl _ _) k x hx)
   have HPx:=zH (HP.out x (List.mem_of_getElem? hx))
   have hPl:=HPl.out x (List.mem_of_getElem? hx)
   have HM1:=zH (HMore.out k x hx)
   have HN2:Hid ((M k++f x).length=N1+(f x).length):=zH (by rw[List.length_append,HM.out])
   have hB1:=HB1.out
   have HL2:=grow_ok (La:=itemLay) HN2 (by show(N1+(f x).length)*32≤_;omega) (by omega)
   have HB2:Hid (N1+(f x).length≤1+(k+1)*70):=zH (by omega)
   clear hsl hat hx hPl hB1
   have hk1:(0:Int)≤(k:Int):=by omega
   have hk2:(k:Int)<(n:Int):=by omega
   go_wp2_with (first|refine wpList_exe (exec_slx rfLay (off:=o) (i:=k) _ _ (by rfl) (by rfl) (by rfl) hlt) (by rfl) ?_|refine wpList_exe (exec_slv rfLay (off:=o+k*3) (x:=x) _ (by rfl) (by rfl) Try.underlying74 HX.out) (by rfl) ?_|(refine wpList_ak rfLay HK rfl rfl ?_;intro _ g5 HK';simp only[lnA] at HK';replace HK:=HK';clear HK')|(refine wpList_st rfLay (p2:=x) HK 0 rfl _ _ rfl rfl rfl rfl rfl ?_;intro _ HK';simp only[List.set] at HK';replace HK:=HK';clear HK')|refine wpList_exe (kexec_ld rfLay (p:=x) Try.underlying74 HK 0 _ (by rfl) (by rfl) (by rfl)) (by rfl) ?_)
   refine(HPx.out _ HK.out.b).mono ?_;rintro e w2 ⟨A5,n5,c5,rfl,o5,b5⟩
   have HI5:=zH (Lay.Own.reads o5).1
   replace HK:=zH (HK.out.called b5 o5)
   simp only[lcA,lnA] at HK
   clear o5 b5
   have HR:=zH (HK.out.own 1 rfl).rd
   go_wp2_with (first|(at_builtin;refine wpList_kmore HK itemLay 0 rfl _ _ rfl rfl rfl (f x) rfl HI5.out HR HL2 (N:=N1+(f x).length) HN2 ?_;intro A7 c7 _ HK';simp only[List.set] at HK';replace HK:=HK';clear HK'))
   refine⟨⟨k+1,A7,_,c7,by omega,rfl,by go_num,HB2,zH (by rw[HM1.out];exact HN2.out),zH ?_⟩,by simp[intOf];omega⟩
   rw[HM1.out]
   exact(HK.out.takeL 0).takeR 1
  ·obtain rfl:k=n:=by omega
   go_wp2_with fail
   go_ret
   exact⟨_,_,_,rfl,HK.out.own 0 rfl,HK.out.b⟩
theorem many_ob_any(f:Oh→Snp.Its)(A:Option Addr)(n c:Nat)(l:List Oh)(w:World)(hs:Sls obLay oF w A n c l)(hn:n≤8)
  (hp:∀x∈l,∀W,Below w.heap.size w W→Calls Try.prog 31 #[.agg (obLay.f x).toArray] W (IsLg itemLay (f x) W)) (hl:∀x∈l,(f x).length≤70) :
  Calls Try.prog 30 #[.slice A n c,.func (.func 31) #[] #[]] w (IsLg itemLay (Snp.many f l) w):=by
 have HS:=zH hs
 have HLen:=zH hs.len
 have HNm:=zH nnum_any
 have HP:=zH hp
 have HPl:=zH hl
 have HAll:=zH (Snp.mk_all n f hs.len)
 have HMore:=zH (fun(k:Nat) (x:Oh) (h:l[k]?=some x)=>Snp.mk_more n f h)
 have HZ:Hid (Snp.mk n f l 0=[Snp.n1 n]):=zH rfl
 have HK:=zH (Kn.start w)
 unfold IsI at HNm
 unfold IsLg at HP ⊢
 rw[← HAll.out]
 clear hs hp hl HAll
 generalize Snp.mk n f l=M at *
 go_enter Try.func30,Try.ntmps30
 go_wp2_with fail
 refine(HNm.out _ _).mono ?_;rintro e w1 ⟨rfl,b1⟩
 replace HK:=hkC HK b1
 clear b1
 go_wp2_with (first|(refine wpList_mk1 itemLay (p:=Snp.n1 n) HK (by decide) rfl _ rfl rfl rfl ?_;intro _ g2 HK';simp only[lnA] at HK';replace HK:=HK';clear HK'))
 go_loopw [5,14] (fun vl vi wr=>∃(k:Nat) (A1:Option Addr) (N1 c1:Nat),k≤n∧vl=.slice A1 N1 c1∧vi=.int .i64 k∧Hid (N1≤1+k*70)∧Hid ((M k).length=N1)∧Hid (Kn w.heap.size w wr [] [row itemLay (.slice A1 N1 c1) (M k)])) (fun _ vi _=>n-(intOf vi).toNat)
 case atStart=>exact⟨0,_,1,1,Nat.zero_le _,rfl,rfl,zH (by omega),zH (by rw[HZ.out];rfl),by rw[HZ.out];exact HK⟩
 case round=>
  clear HK
  obtain⟨k,A1,N1,c1,hk,rfl,rfl,HB1,HM,HK⟩:=hrel
  by_cases hlt:k<n
  ·obtain⟨x,hx⟩:=Lay.get_of (l:=l) (k:=k) (by rw[HLen.out];exact hlt)
   have hsl:Sls obLay oF wr A n c l:=HS.out.later HK.out.b
   obtain⟨b,o,rfl,hat⟩:=hsl.at (Nat.lt_of_le_of_lt (Nat.zero_le _) hlt)
   have HX:Hid (∀j v,(obLay.f x)[j]?=some v→wr.cell? ⟨b,o+k*11+j,none⟩=some v):=zH (hat wr (Below.refl _ _) k x hx)
   have HPx:=zH (HP.out x (List.mem_of_getElem? hx))
   have hPl:=HPl.out x (List.mem_of_getElem? hx)
   have HM1:=zH (HMore.out k x hx)
   have HN2:Hid ((M k++f x).length=N1+(f x).length):=zH (by rw[List.length_append,HM.out])
   have hB1:=HB1.out
   have HL2:=grow_ok (La:=itemLay) HN2 (by show(N1+(f x).length)*32≤_;omega) (by omega)
   have HB2:Hid (N1+(f x).length≤1+(k+1)*70):=zH (by omega)
   clear hsl hat hx hPl hB1
   have hk1:(0:Int)≤(k:Int):=by omega
   have hk2:(k:Int)<(n:Int):=by omega
   go_wp2_with (first|refine wpList_exe (exec_slx obLay (off:=o) (i:=k) _ _ (by rfl) (by rfl) (by rfl) hlt) (by rfl) ?_|refine wpList_exe (exec_slv obLay (off:=o+k*11) (x:=x) _ (by rfl) (by rfl) Try.underlying69 HX.out) (by rfl) ?_|(refine wpList_ak obLay HK rfl rfl ?_;intro _ g5 HK';simp only[lnA] at HK';replace HK:=HK';clear HK')|(refine wpList_st obLay (p2:=x) HK 0 rfl _ _ rfl rfl rfl rfl rfl ?_;intro _ HK';simp only[List.set] at HK';replace HK:=HK';clear HK')|refine wpList_exe (kexec_ld obLay (p:=x) Try.underlying69 HK 0 _ (by rfl) (by rfl) (by rfl)) (by rfl) ?_)
   refine(HPx.out _ HK.out.b).mono ?_;rintro e w2 ⟨A5,n5,c5,rfl,o5,b5⟩
   have HI5:=zH (Lay.Own.reads o5).1
   replace HK:=zH (HK.out.called b5 o5)
   simp only[lcA,lnA] at HK
   clear o5 b5
   have HR:=zH (HK.out.own 1 rfl).rd
   go_wp2_with (first|(at_builtin;refine wpList_kmore HK itemLay 0 rfl _ _ rfl rfl rfl (f x) rfl HI5.out HR HL2 (N:=N1+(f x).length) HN2 ?_;intro A7 c7 _ HK';simp only[List.set] at HK';replace HK:=HK';clear HK'))
   refine⟨⟨k+1,A7,_,c7,by omega,rfl,by go_num,HB2,zH (by rw[HM1.out];exact HN2.out),zH ?_⟩,by simp[intOf];omega⟩
   rw[HM1.out]
   exact(HK.out.takeL 0).takeR 1
  ·obtain rfl:k=n:=by omega
   go_wp2_with fail
   go_ret
   exact⟨_,_,_,rfl,HK.out.own 0 rfl,HK.out.b⟩
end
section
open Go.RowKit
section
variable {P:Program}{α:Type}{La:Lay P α}{F:α→Prop}{b0:Nat}{w0 w w':World}{L:List (Nat×TypeId×Array Value)}{R:List RowE}{f:FuncId}{g:Nat}{A1 A2 A3 A4 A5:Option Addr}{n1 c1 n2 c2 n3 c3 n4 c4 n5 c5:Nat}{l1 l2 l3 l4 l5:List α}
theorem Joins.five(J:Joins P f La F)(HK:Hid (Kn b0 w0 w L R))(i:Nat)(hL:L[i]?=some (g,La.t,#[.slice A1 n1 c1,.slice A2 n2 c2,.slice A3 n3 c3,.slice A4 n4 c4,.slice A5 n5 c5]))(h1:Sls La F w A1 n1 c1 l1)(h2:Sls La F w A2 n2 c2 l2)(h3:Sls La F w A3 n3 c3 l3)(h4:Sls La F w A4 n4 c4 l4)(h5:Sls La F w A5 n5 c5 l5)
  (ht:(l1.length+l2.length+l3.length+l4.length+l5.length)*La.bytes≤140737488355328) :
  Calls P f #[.slice (some ⟨g,0,none⟩) 5 5] w (IsLg La (l1++(l2++(l3++(l4++l5)))) w):=by
 have e:catP [(⟨A1,n1,c1,l1⟩:Pce α),⟨A2,n2,c2,l2⟩,⟨A3,n3,c3,l3⟩,⟨A4,n4,c4,l4⟩,⟨A5,n5,c5,l5⟩]=l1++(l2++(l3++(l4++l5))):=by show l1++(l2++(l3++(l4++(l5++[]))))=_;rw[List.append_nil]
 have h:=J g 5 [⟨A1,n1,c1,l1⟩,⟨A2,n2,c2,l2⟩,⟨A3,n3,c3,l3⟩,⟨A4,n4,c4,l4⟩,⟨A5,n5,c5,l5⟩] w rfl (by decide) (HK.out.blk i hL).lt (fun j p hp=>by
  match j,hp with
  | 0,hp=>simp at hp;subst hp;exact HK.out.cell i hL 0 rfl
  | 1,hp=>simp at hp;subst hp;exact HK.out.cell i hL 1 rfl
  | 2,hp=>simp at hp;subst hp;exact HK.out.cell i hL 2 rfl
  | 3,hp=>simp at hp;subst hp;exact HK.out.cell i hL 3 rfl
  | 4,hp=>simp at hp;subst hp;exact HK.out.cell i hL 4 rfl) (fun p hp=>by
   simp only[List.mem_cons,List.not_mem_nil,or_false] at hp
   rcases hp with rfl|rfl|rfl|rfl|rfl
   ·exact h1
   ·exact h2
   ·exact h3
   ·exact h4
   ·exact h5) (by
   rw[e]
   simp only[List.length_append]
   rw[← Nat.add_assoc,← Nat.add_assoc,← Nat.add_assoc];exact ht)
 rw[e] at h
 exact h
end
theorem Snp.flat_le{α:Type}(f:α→Snp.Its)(m:Nat):∀(l:List α),(∀x∈l,(f x).length≤m)→(l.flatMap f).length≤l.length*m
 | [],_=>Nat.zero_le _
 | x::l,h=>by
  have h1:=h x (List.mem_cons_self ..)
  have h2:=flat_le f m l fun y hy=>h y (List.mem_cons_of_mem x hy)
  rw[List.flatMap_cons,List.length_append,List.length_cons,Nat.succ_mul]
  omega
theorem Snp.many_le{α:Type}(f:α→Snp.Its)(m:Nat){l:List α}(h:∀x∈l,(f x).length≤m):(Snp.many f l).length≤1+l.length*m:=by
 have:=flat_le f m l h
 unfold Snp.many
 rw[List.length_cons]
 omega
theorem Snp.prI_len(p:Dct.Pr):(Snp.prI p).length≤3:=by
 have:=nit_len p.val
 unfold Snp.prI
 rw[List.length_cons]
 omega
def Short(x:Oh):Prop:=x.pn≤8∧x.vn≤8∧x.rn≤5
theorem Snp.obI_len{w:World}{x:Oh}(hx:In w x)(hs:Short x):(Snp.obI x.v).length≤70:=by
 have h1:=Snp.many_le Snp.prI 3 (l:=x.v.prs) fun p _=>Snp.prI_len p
 have h2:=Snp.many_le Val.items 2 (l:=x.v.vals) fun v _=>(nit_len v).2
 have h3:=Snp.many_le Snp.rfI 3 (l:=x.v.refs) fun r _=>Nat.le_refl _
 have e1:=hx.p.sls.len
 have e2:=hx.v.len
 have e3:=hx.r.len
 obtain⟨s1,s2,s3⟩:=hs
 unfold Snp.obI Snp.mtI
 simp only[List.length_append,List.length_cons,List.length_nil]
 omega
theorem nob_any(x:Oh)(w:World)(hx:In w x)(hs:Short x):Calls Try.prog 31 #[.agg (obA x)] w (IsLg itemLay (Snp.obI x.v) w):=by
 have h1:=Snp.many_le Snp.prI 3 (l:=x.v.prs) fun p _=>Snp.prI_len p
 have h2:=Snp.many_le Val.items 2 (l:=x.v.vals) fun v _=>(nit_len v).2
 have h3:=Snp.many_le Snp.rfI 3 (l:=x.v.refs) fun r _=>Nat.le_refl _
 have HMp:Hid (∀W,Below w.heap.size w W→Calls Try.prog 52 #[.slice x.pA x.pn x.pc,.func (.func 53) #[] #[]] W (IsLg itemLay (Snp.many Snp.prI x.v.prs) W)):=zH fun W hW=>
  many_pr_any Snp.prI _ _ _ _ W (hx.p.sls.later hW) hs.1 (fun p hp V _=>npr_any p V (hx.p.sls.fit.fs p hp)) fun p _=>Nat.le_trans (Snp.prI_len p) (by decide)
 have HMv:Hid (∀W,Below w.heap.size w W→Calls Try.prog 54 #[.slice x.vA x.vn x.vc,.func (.func 55) #[] #[]] W (IsLg itemLay (Snp.many Val.items x.v.vals) W)):=zH fun W hW=>
  many_va_any Val.items _ _ _ _ W (hx.v.later hW) hs.2.1 (fun v hv V _=>nvit_any v V (hx.v.fit.fs v hv)) fun v _=>Nat.le_trans (nit_len v).2 (by decide)
 have HMr:Hid (∀W,Below w.heap.size w W→Calls Try.prog 56 #[.slice x.rA x.rn x.rc,.func (.func 57) #[] #[]] W (IsLg itemLay (Snp.many Snp.rfI x.v.refs) W)):=zH fun W hW=>
  many_rf_any Snp.rfI _ _ _ _ W (hx.r.later hW) (Nat.le_trans hs.2.2 (by decide)) (fun r _ V _=>nrf_any r V) fun r _=>by show 3≤70;decide
 have HMm:=zH (fun W=>nmt_any x.v.mt W ⟨hx.m.2.1,hx.m.2.2.1,hx.m.2.2.2⟩)
 have e1:=hx.p.sls.len
 have e2:=hx.v.len
 have e3:=hx.r.len
 obtain⟨s1,s2,s3⟩:=hs
 have HBg:Hid (([Snp.t1 x.v.name,Snp.n1 x.v.kind,Snp.n1 x.v.cap,Snp.n1 x.v.round].length+(Snp.many Snp.prI x.v.prs).length+(Snp.many Val.items x.v.vals).length+(Snp.many Snp.rfI x.v.refs).length+(Snp.mtI x.v.mt).length)*itemLay.bytes≤140737488355328):=zH (by
  show(4+(Snp.many Snp.prI x.v.prs).length+(Snp.many Val.items x.v.vals).length+(Snp.many Snp.rfI x.v.refs).length+4)*32≤_
  omega)
 have HF:Hid (∀l:List Itm.It,l.length≤1000→Fits itemLay iF l):=zH fun l h=>⟨fun _ _=>trivial,by show l.length*32≤_;omega⟩
 have HF2:=zH (HF.out (Snp.many Snp.prI x.v.prs) (by omega))
 have HF3:=zH (HF.out (Snp.many Val.items x.v.vals) (by omega))
 have HF4:=zH (HF.out (Snp.many Snp.rfI x.v.refs) (by omega))
 have HF5:=zH (HF.out (Snp.mtI x.v.mt) (by show 4≤1000;decide))
 have HNm:=zH nnum_any
 have HTx:=zH ntxt_any
 have HJ:=zH iconcat_any
 have HK:=kn1 w 69 (obA x)
 unfold IsI at HNm HTx
 unfold IsLg at HMp HMv HMr HMm
 unfold IsLg Snp.obI
 clear h1 h2 h3 e1 e2 e3 s1 s2 s3 hx
 generalize Snp.many Snp.prI x.v.prs=lp at *
 generalize Snp.many Val.items x.v.vals=lv at *
 generalize Snp.many Snp.rfI x.v.refs=lr at *
 generalize Snp.mtI x.v.mt=lm at *
 go_enter Try.func31,Try.ntmps31
 go_wp2_with fail
 have HK0:=zH HK.out.drew
 refine wp_region_held_drew (S:=(fun W=>Hid (Kn w.heap.size w W [(w.heap.size,69,obA x)] []))) (by kernel_rfl) ?_ (fun hHeld=>?_)
 ·(try dsimp only);exact zH HK.out.drew
 refine wpAnyH_take (i:=0) (oi:=⟨some 3,_,_,_,_,_⟩) (v:=?_) rfl (by kernel_rfl) (by kernel_rfl) (by kernel_rfl) (fun _ _ _ h=>h) (Or.inl ⟨by rfl,?_⟩) (by assumption) ?_
 rotate_left
 ·(intro w hSw;(try dsimp only at hSw);go_simp;try with_reducible rfl)
 try simp only[Act.put,List.setIfInBounds_toArray,List.set_cons_zero,List.set_cons_succ]
 refine wpAnyH_take (i:=1) (oi:=⟨some 4,_,_,_,_,_⟩) (v:=?_) rfl (by kernel_rfl) (by kernel_rfl) (by kernel_rfl) (fun _ _ _ h=>h) (Or.inl ⟨by rfl,?_⟩) (by assumption) ?_
 rotate_left
 ·(intro w hSw;refine Eq.trans (kob_n hSw 0 _ (by rfl) (by rfl) (by rfl)) ?_;with_reducible rfl)
 try simp only[Act.put,List.setIfInBounds_toArray,List.set_cons_zero,List.set_cons_succ]
 refine wpAnyH_take (i:=3) (oi:=⟨some 6,_,_,_,_,_⟩) (v:=?_) rfl (by kernel_rfl) (by kernel_rfl) (by kernel_rfl) (fun _ _ _ h=>h) (Or.inl ⟨by rfl,?_⟩) (by assumption) ?_
 rotate_left
 ·(intro w hSw;(try dsimp only at hSw);go_simp;try with_reducible rfl)
 try simp only[Act.put,List.setIfInBounds_toArray,List.set_cons_zero,List.set_cons_succ]
 refine wpAnyH_take (i:=4) (oi:=⟨some 7,_,_,_,_,_⟩) (v:=?_) rfl (by kernel_rfl) (by kernel_rfl) (by kernel_rfl) (fun _ _ _ h=>h) (Or.inl ⟨by rfl,?_⟩) (by assumption) ?_
 rotate_left
 ·(intro w hSw;refine Eq.trans (kob_k hSw 0 _ (by rfl) (by rfl) (by rfl)) ?_;with_reducible rfl)
 try simp only[Act.put,List.setIfInBounds_toArray,List.set_cons_zero,List.set_cons_succ]
 refine wpAnyH_take (i:=6) (oi:=⟨some 9,_,_,_,_,_⟩) (v:=?_) rfl (by kernel_rfl) (by kernel_rfl) (by kernel_rfl) (fun _ _ _ h=>h) (Or.inl ⟨by rfl,?_⟩) (by assumption) ?_
 rotate_left
 ·(intro w hSw;(try dsimp only at hSw);go_simp;try with_reducible rfl)
 try simp only[Act.put,List.setIfInBounds_toArray,List.set_cons_zero,List.set_cons_succ]
 refine wpAnyH_take (i:=7) (oi:=⟨some 10,_,_,_,_,_⟩) (v:=?_) rfl (by kernel_rfl) (by kernel_rfl) (by kernel_rfl) (fun _ _ _ h=>h) (Or.inl ⟨by rfl,?_⟩) (by assumption) ?_
 rotate_left
 ·(intro w hSw;refine Eq.trans (kob_c hSw 0 _ (by rfl) (by rfl) (by rfl)) ?_;with_reducible rfl)
 try simp only[Act.put,List.setIfInBounds_toArray,List.set_cons_zero,List.set_cons_succ]
 refine wpAnyH_take (i:=9) (oi:=⟨some 12,_,_,_,_,_⟩) (v:=?_) rfl (by kernel_rfl) (by kernel_rfl) (by kernel_rfl) (fun _ _ _ h=>h) (Or.inl ⟨by rfl,?_⟩) (by assumption) ?_
 rotate_left
 ·(intro w hSw;(try dsimp only at hSw);go_simp;try with_reducible rfl)
 try simp only[Act.put,List.setIfInBounds_toArray,List.set_cons_zero,List.set_cons_succ]
 refine wpAnyH_take (i:=10) (oi:=⟨some 13,_,_,_,_,_⟩) (v:=?_) rfl (by kernel_rfl) (by kernel_rfl) (by kernel_rfl) (fun _ _ _ h=>h) (Or.inl ⟨by rfl,?_⟩) (by assumption) ?_
 rotate_left
 ·(intro w hSw;refine Eq.trans (kob_d hSw 0 _ (by rfl) (by rfl) (by rfl)) ?_;with_reducible rfl)
 try simp only[Act.put,List.setIfInBounds_toArray,List.set_cons_zero,List.set_cons_succ]
 refine wpAnyH_take (i:=13) (oi:=⟨some 16,_,_,_,_,_⟩) (v:=?_) rfl (by kernel_rfl) (by kernel_rfl) (by kernel_rfl) (fun _ _ _ h=>h) (Or.inl ⟨by rfl,?_⟩) (by assumption) ?_
 rotate_left
 ·(intro w hSw;(try dsimp only at hSw);go_simp;try with_reducible rfl)
 try simp only[Act.put,List.setIfInBounds_toArray,List.set_cons_zero,List.set_cons_succ]
 refine wpAnyH_take (i:=14) (oi:=⟨some 17,_,_,_,_,_⟩) (v:=?_) rfl (by kernel_rfl) (by kernel_rfl) (by kernel_rfl) (fun _ _ _ h=>h) (Or.inl ⟨by rfl,?_⟩) (by assumption) ?_
 rotate_left
 ·(intro w hSw;refine Eq.trans (kob_p hSw 0 _ (by rfl) (by rfl) (by rfl)) ?_;with_reducible rfl)
 try simp only[Act.put,List.setIfInBounds_toArray,List.set_cons_zero,List.set_cons_succ]
 refine wpAnyH_take (i:=16) (oi:=⟨some 19,_,_,_,_,_⟩) (v:=?_) rfl (by kernel_rfl) (by kernel_rfl) (by kernel_rfl) (fun _ _ _ h=>h) (Or.inl ⟨by rfl,?_⟩) (by assumption) ?_
 rotate_left
 ·(intro w hSw;(try dsimp only at hSw);go_simp;try with_reducible rfl)
 try simp only[Act.put,List.setIfInBounds_toArray,List.set_cons_zero,List.set_cons_succ]
 refine wpAnyH_take (i:=17) (oi:=⟨some 20,_,_,_,_,_⟩) (v:=?_) rfl (by kernel_rfl) (by kernel_rfl) (by kernel_rfl) (fun _ _ _ h=>h) (Or.inl ⟨by rfl,?_⟩) (by assumption) ?_
 rotate_left
 ·(intro w hSw;refine Eq.trans (kob_v hSw 0 _ (by rfl) (by rfl) (by rfl)) ?_;with_reducible rfl)
 try simp only[Act.put,List.setIfInBounds_toArray,List.set_cons_zero,List.set_cons_succ]
 refine wpAnyH_take (i:=19) (oi:=⟨some 22,_,_,_,_,_⟩) (v:=?_) rfl (by kernel_rfl) (by kernel_rfl) (by kernel_rfl) (fun _ _ _ h=>h) (Or.inl ⟨by rfl,?_⟩) (by assumption) ?_
 rotate_left
 ·(intro w hSw;(try dsimp only at hSw);go_simp;try with_reducible rfl)
 try simp only[Act.put,List.setIfInBounds_toArray,List.set_cons_zero,List.set_cons_succ]
 refine wpAnyH_take (i:=20) (oi:=⟨some 23,_,_,_,_,_⟩) (v:=?_) rfl (by kernel_rfl) (by kernel_rfl) (by kernel_rfl) (fun _ _ _ h=>h) (Or.inl ⟨by rfl,?_⟩) (by assumption) ?_
 rotate_left
 ·(intro w hSw;refine Eq.trans (kob_r hSw 0 _ (by rfl) (by rfl) (by rfl)) ?_;with_reducible rfl)
 try simp only[Act.put,List.setIfInBounds_toArray,List.set_cons_zero,List.set_cons_succ]
 refine wpAnyH_take (i:=22) (oi:=⟨some 25,_,_,_,_,_⟩) (v:=?_) rfl (by kernel_rfl) (by kernel_rfl) (by kernel_rfl) (fun _ _ _ h=>h) (Or.inl ⟨by rfl,?_⟩) (by assumption) ?_
 rotate_left
 ·(intro w hSw;(try dsimp only at hSw);go_simp;try with_reducible rfl)
 try simp only[Act.put,List.setIfInBounds_toArray,List.set_cons_zero,List.set_cons_succ]
 refine wpAnyH_take (i:=23) (oi:=⟨some 26,_,_,_,_,_⟩) (v:=?_) rfl (by kernel_rfl) (by kernel_rfl) (by kernel_rfl) (fun _ _ _ h=>h) (Or.inl ⟨by rfl,?_⟩) (by assumption) ?_
 rotate_left
 ·(intro w hSw;refine Eq.trans (kob_m hSw 0 _ (by rfl) (by rfl) (by rfl)) ?_;with_reducible rfl)
 try simp only[Act.put,List.setIfInBounds_toArray,List.set_cons_zero,List.set_cons_succ]
 refine wpAnyH_ready (rs:=[2]) (by kernel_rfl) (by simp) ?_
 refine AllReadyH.cons (o:=⟨some 5,_,_,_,_,_⟩) rfl (fun K hK=>?_) AllReadyH.nil
 go_simp
 go_at_call 51
 refine(HTx.out _ _).mono ?_;rintro e w5 ⟨rfl,b5⟩;replace HK0:=zH (HK0.out.call b5);have hs:=HK0;clear b5
 refine hK.out _ _ hs (fun hHeld=>?_)
 clear hK K
 try simp only[ap1,ap2,ap3,ap4,ap5]
 refine wpAnyH_ready (rs:=[5]) (by kernel_rfl) (by simp) ?_
 refine AllReadyH.cons (o:=⟨some 8,_,_,_,_,_⟩) rfl (fun K hK=>?_) AllReadyH.nil
 go_simp
 go_at_call 29
 refine(HNm.out _ _).mono ?_;rintro e w5 ⟨rfl,b5⟩;replace HK0:=zH (HK0.out.call b5);have hs:=HK0;clear b5
 refine hK.out _ _ hs (fun hHeld=>?_)
 clear hK K
 try simp only[ap1,ap2,ap3,ap4,ap5]
 refine wpAnyH_ready (rs:=[8]) (by kernel_rfl) (by simp) ?_
 refine AllReadyH.cons (o:=⟨some 11,_,_,_,_,_⟩) rfl (fun K hK=>?_) AllReadyH.nil
 go_simp
 go_at_call 29
 refine(HNm.out _ _).mono ?_;rintro e w5 ⟨rfl,b5⟩;replace HK0:=zH (HK0.out.call b5);have hs:=HK0;clear b5
 refine hK.out _ _ hs (fun hHeld=>?_)
 clear hK K
 try simp only[ap1,ap2,ap3,ap4,ap5]
 refine wpAnyH_ready (rs:=[11]) (by kernel_rfl) (by simp) ?_
 refine AllReadyH.cons (o:=⟨some 14,_,_,_,_,_⟩) rfl (fun K hK=>?_) AllReadyH.nil
 go_simp
 go_at_call 29
 refine(HNm.out _ _).mono ?_;rintro e w5 ⟨rfl,b5⟩;replace HK0:=zH (HK0.out.call b5);have hs:=HK0;clear b5
 refine hK.out _ _ hs (fun hHeld=>?_)
 clear hK K
 try simp only[ap1,ap2,ap3,ap4,ap5]
 refine wpAnyH_ready (rs:=[12,15]) (by kernel_rfl) (by simp) ?_
 refine AllReadyH.cons (o:=⟨some 15,_,_,_,_,_⟩) rfl (fun K hK=>?_) (AllReadyH.cons (o:=⟨some 18,_,_,_,_,_⟩) rfl (fun K hK=>?_) AllReadyH.nil)
 refine step_mk4 itemLay (p1:=Snp.t1 x.v.name) (p2:=Snp.n1 x.v.kind) (p3:=Snp.n1 x.v.cap) (p4:=Snp.n1 x.v.round) HK0 (by decide) (by rfl) _ _ _ _ (by rfl) (by rfl) (by rfl) (by rfl) (by rfl) (by rfl) (by rfl) (by rfl) (by rfl) ?_;intro _ g5 HK' _;replace HK0:=zH HK'.out.frontR;clear HK';have hs:=zH (HK0.out.takeR 0)
 refine hK.out _ _ hs (fun hHeld=>?_)
 clear hK K
 try simp only[ap1,ap2,ap3,ap4,ap5]
 refine wpAnyH_ready (rs:=[15]) (by kernel_rfl) (by simp) ?_
 refine AllReadyH.cons (o:=⟨some 18,_,_,_,_,_⟩) rfl (fun K hK=>?_) AllReadyH.nil
 go_simp
 go_at_call 52
 refine(HMp.out _ HK0.out.b).mono ?_;rintro e w5 ⟨A5,n5,c5,rfl,o5,b5⟩;replace HK0:=zH (HK0.out.called b5 o5);simp only[lnA,lcA] at HK0;have hs:=zH (HK0.out.takeR 0);clear b5 o5
 refine hK.out _ _ hs (fun hHeld=>?_)
 clear hK K
 try simp only[ap1,ap2,ap3,ap4,ap5]
 refine wpAnyH_ready (rs:=[18]) (by kernel_rfl) (by simp) ?_
 refine AllReadyH.cons (o:=⟨some 21,_,_,_,_,_⟩) rfl (fun K hK=>?_) AllReadyH.nil
 go_simp
 go_at_call 54
 refine(HMv.out _ HK0.out.b).mono ?_;rintro e w5 ⟨A5,n5,c5,rfl,o5,b5⟩;replace HK0:=zH (HK0.out.called b5 o5);simp only[lnA,lcA] at HK0;have hs:=zH (HK0.out.takeR 0);clear b5 o5
 refine hK.out _ _ hs (fun hHeld=>?_)
 clear hK K
 try simp only[ap1,ap2,ap3,ap4,ap5]
 refine wpAnyH_ready (rs:=[21]) (by kernel_rfl) (by simp) ?_
 refine AllReadyH.cons (o:=⟨some 24,_,_,_,_,_⟩) rfl (fun K hK=>?_) AllReadyH.nil
 go_simp
 go_at_call 56
 refine(HMr.out _ HK0.out.b).mono ?_;rintro e w5 ⟨A5,n5,c5,rfl,o5,b5⟩;replace HK0:=zH (HK0.out.called b5 o5);simp only[lnA,lcA] at HK0;have hs:=zH (HK0.out.takeR 0);clear b5 o5
 refine hK.out _ _ hs (fun hHeld=>?_)
 clear hK K
 try simp only[ap1,ap2,ap3,ap4,ap5]
 refine wpAnyH_ready (rs:=[24]) (by kernel_rfl) (by simp) ?_
 refine AllReadyH.cons (o:=⟨some 27,_,_,_,_,_⟩) rfl (fun K hK=>?_) AllReadyH.nil
 go_simp
 go_at_call 58
 refine(HMm.out _).mono ?_;rintro e w5 ⟨A5,n5,c5,rfl,o5,b5⟩;replace HK0:=zH (HK0.out.called b5 o5);simp only[lnA,lcA] at HK0;have hs:=zH (HK0.out.takeR 0);clear b5 o5
 refine hK.out _ _ hs (fun hHeld=>?_)
 clear hK K
 try simp only[ap1,ap2,ap3,ap4,ap5]
 refine wpAnyH_ready (rs:=[25]) (by kernel_rfl) (by simp) ?_
 refine AllReadyH.cons (o:=⟨some 28,_,_,_,_,_⟩) rfl (fun K hK=>?_) AllReadyH.nil
 refine step_mks5 itemLay itNest HK0 (by rfl) _ _ _ _ _ (by rfl) (by rfl) (by rfl) (by rfl) (by rfl) (by rfl) ?_;intro _ g6 HK' _;simp only[lcA,lnA] at HK';replace HK0:=HK';clear HK';have hs:=zH ((HK0.out.takeL 1).takeR 0)
 refine hK.out _ _ hs (fun hHeld=>?_)
 clear hK K
 try simp only[ap1,ap2,ap3,ap4,ap5]
 refine wpAnyH_ready (rs:=[26]) (by kernel_rfl) (by simp) ?_
 refine AllReadyH.cons (o:=⟨some 29,_,_,_,_,_⟩) rfl (fun K hK=>?_) AllReadyH.nil
 go_simp
 go_at_call 50
 refine(HJ.out.five HK0 1 rfl (Sls.own (HK0.out.own 0 rfl) (HF.out _ (by show 4≤1000;decide))) (Sls.own (HK0.out.own 1 rfl) HF2.out) (Sls.own (HK0.out.own 2 rfl) HF3.out) (Sls.own (HK0.out.own 3 rfl) HF4.out) (Sls.own (HK0.out.own 4 rfl) HF5.out) HBg.out).mono ?_;rintro e w7 ⟨A9,n9,c9,rfl,o9,b9⟩;replace HK0:=zH (HK0.out.called b9 o9).frontR;clear o9 b9;have hs:=zH ((HK0.out.takeL 1).takeR 0)
 refine hK.out _ _ hs (fun hHeld=>?_)
 clear hK K
 try simp only[ap1,ap2,ap3,ap4,ap5]
 refine wpAnyH_take (i:=27) (oi:=⟨some 2,_,_,_,_,_⟩) (v:=?_) rfl (by kernel_rfl) (by kernel_rfl) (by kernel_rfl) (fun _ _ _ h=>h) (Or.inl ⟨by rfl,?_⟩) (by assumption) ?_
 rotate_left
 ·(intro w hSw;(try dsimp only at hSw);go_simp;try with_reducible rfl)
 try simp only[Act.put,List.setIfInBounds_toArray,List.set_cons_zero,List.set_cons_succ]
 refine wpAnyH_done (by kernel_rfl) ?_ _
 rotate_left
 go_simp
 go_at_call 52
 refine(HMp.out _ HK0.out.b).mono ?_;rintro e w5 ⟨A5,n5,c5,rfl,o5,b5⟩;replace HK0:=zH (HK0.out.called b5 o5);simp only[lnA,lcA] at HK0;have hs:=zH (HK0.out.takeR 0);clear b5 o5
 refine hK.out _ _ hs (fun hHeld=>?_)
 clear hK K
 try simp only[ap1,ap2,ap3,ap4,ap5]
 refine wpAnyH_ready (rs:=[12,18]) (by kernel_rfl) (by simp) ?_
 refine AllReadyH.cons (o:=⟨some 15,_,_,_,_,_⟩) rfl (fun K hK=>?_) (AllReadyH.cons (o:=⟨some 21,_,_,_,_,_⟩) rfl (fun K hK=>?_) AllReadyH.nil)
 refine step_mk4 itemLay (p1:=Snp.t1 x.v.name) (p2:=Snp.n1 x.v.kind) (p3:=Snp.n1 x.v.cap) (p4:=Snp.n1 x.v.round) HK0 (by decide) (by rfl) _ _ _ _ (by rfl) (by rfl) (by rfl) (by rfl) (by rfl) (by rfl) (by rfl) (by rfl) (by rfl) ?_;intro _ g5 HK' _;replace HK0:=zH HK'.out.frontR;clear HK';have hs:=zH (HK0.out.takeR 0)
 refine hK.out _ _ hs (fun hHeld=>?_)
 clear hK K
 try simp only[ap1,ap2,ap3,ap4,ap5]
 refine wpAnyH_ready (rs:=[18]) (by kernel_rfl) (by simp) ?_
 refine AllReadyH.cons (o:=⟨some 21,_,_,_,_,_⟩) rfl (fun K hK=>?_) AllReadyH.nil
 go_simp
 go_at_call 54
 refine(HMv.out _ HK0.out.b).mono ?_;rintro e w5 ⟨A5,n5,c5,rfl,o5,b5⟩;replace HK0:=zH (HK0.out.called b5 o5);simp only[lnA,lcA] at HK0;have hs:=zH (HK0.out.takeR 0);clear b5 o5
 refine hK.out _ _ hs (fun hHeld=>?_)
 clear hK K
 try simp only[ap1,ap2,ap3,ap4,ap5]
 refine wpAnyH_ready (rs:=[21]) (by kernel_rfl) (by simp) ?_
 refine AllReadyH.cons (o:=⟨some 24,_,_,_,_,_⟩) rfl (fun K hK=>?_) AllReadyH.nil
 go_simp
 go_at_call 56
 refine(HMr.out _ HK0.out.b).mono ?_;rintro e w5 ⟨A5,n5,c5,rfl,o5,b5⟩;replace HK0:=zH (HK0.out.called b5 o5);simp only[lnA,lcA] at HK0;have hs:=zH (HK0.out.takeR 0);clear b5 o5
 refine hK.out _ _ hs (fun hHeld=>?_)
 clear hK K
 try simp only[ap1,ap2,ap3,ap4,ap5]
 refine wpAnyH_ready (rs:=[24]) (by kernel_rfl) (by simp) ?_
 refine AllReadyH.cons (o:=⟨some 27,_,_,_,_,_⟩) rfl (fun K hK=>?_) AllReadyH.nil
 go_simp
 go_at_call 58
 refine(HMm.out _).mono ?_;rintro e w5 ⟨A5,n5,c5,rfl,o5,b5⟩;replace HK0:=zH (HK0.out.called b5 o5);simp only[lnA,lcA] at HK0;have hs:=zH (HK0.out.takeR 0);clear b5 o5
 refine hK.out _ _ hs (fun hHeld=>?_)
 clear hK K
 try simp only[ap1,ap2,ap3,ap4,ap5]
 refine wpAnyH_ready (rs:=[25]) (by kernel_rfl) (by simp) ?_
 refine AllReadyH.cons (o:=⟨some 28,_,_,_,_,_⟩) rfl (fun K hK=>?_) AllReadyH.nil
 refine step_mks5 itemLay itNest HK0 (by rfl) _ _ _ _ _ (by rfl) (by rfl) (by rfl) (by rfl) (by rfl) (by rfl) ?_;intro _ g6 HK' _;simp only[lcA,lnA] at HK';replace HK0:=HK';clear HK';have hs:=zH ((HK0.out.takeL 1).takeR 0)
 refine hK.out _ _ hs (fun hHeld=>?_)
 clear hK K
 try simp only[ap1,ap2,ap3,ap4,ap5]
 refine wpAnyH_ready (rs:=[26]) (by kernel_rfl) (by simp) ?_
 refine AllReadyH.cons (o:=⟨some 29,_,_,_,_,_⟩) rfl (fun K hK=>?_) AllReadyH.nil
 go_simp
 go_at_call 50
 refine(HJ.out.five HK0 1 rfl (Sls.own (HK0.out.own 0 rfl) (HF.out _ (by show 4≤1000;decide))) (Sls.own (HK0.out.own 1 rfl) HF2.out) (Sls.own (HK0.out.own 2 rfl) HF3.out) (Sls.own (HK0.out.own 3 rfl) HF4.out) (Sls.own (HK0.out.own 4 rfl) HF5.out) HBg.out).mono ?_;rintro e w7 ⟨A9,n9,c9,rfl,o9,b9⟩;replace HK0:=zH (HK0.out.called b9 o9).frontR;clear o9 b9;have hs:=zH ((HK0.out.takeL 1).takeR 0)
 refine hK.out _ _ hs (fun hHeld=>?_)
 clear hK K
 try simp only[ap1,ap2,ap3,ap4,ap5]
 refine wpAnyH_take (i:=27) (oi:=⟨some 2,_,_,_,_,_⟩) (v:=?_) rfl (by kernel_rfl) (by kernel_rfl) (by kernel_rfl) (fun _ _ _ h=>h) (Or.inl ⟨by rfl,?_⟩) (by assumption) ?_
 rotate_left
 ·(intro w hSw;(try dsimp only at hSw);go_simp;try with_reducible rfl)
 try simp only[Act.put,List.setIfInBounds_toArray,List.set_cons_zero,List.set_cons_succ]
 refine wpAnyH_done (by kernel_rfl) ?_ _
 rotate_left
 go_simp
 go_at_call 54
 refine(HMv.out _ HK0.out.b).mono ?_;rintro e w5 ⟨A5,n5,c5,rfl,o5,b5⟩;replace HK0:=zH (HK0.out.called b5 o5);simp only[lnA,lcA] at HK0;have hs:=zH (HK0.out.takeR 0);clear b5 o5
 refine hK.out _ _ hs (fun hHeld=>?_)
 clear hK K
 try simp only[ap1,ap2,ap3,ap4,ap5]
 refine wpAnyH_ready (rs:=[12,21]) (by kernel_rfl) (by simp) ?_
 refine AllReadyH.cons (o:=⟨some 15,_,_,_,_,_⟩) rfl (fun K hK=>?_) (AllReadyH.cons (o:=⟨some 24,_,_,_,_,_⟩) rfl (fun K hK=>?_) AllReadyH.nil)
 refine step_mk4 itemLay (p1:=Snp.t1 x.v.name) (p2:=Snp.n1 x.v.kind) (p3:=Snp.n1 x.v.cap) (p4:=Snp.n1 x.v.round) HK0 (by decide) (by rfl) _ _ _ _ (by rfl) (by rfl) (by rfl) (by rfl) (by rfl) (by rfl) (by rfl) (by rfl) (by rfl) ?_;intro _ g5 HK' _;replace HK0:=zH HK'.out.frontR;clear HK';have hs:=zH (HK0.out.takeR 0)
 refine hK.out _ _ hs (fun hHeld=>?_)
 clear hK K
 try simp only[ap1,ap2,ap3,ap4,ap5]
 refine wpAnyH_ready (rs:=[21]) (by kernel_rfl) (by simp) ?_
 refine AllReadyH.cons (o:=⟨some 24,_,_,_,_,_⟩) rfl (fun K hK=>?_) AllReadyH.nil
 go_simp
 go_at_call 56
 refine(HMr.out _ HK0.out.b).mono ?_;rintro e w5 ⟨A5,n5,c5,rfl,o5,b5⟩;replace HK0:=zH (HK0.out.called b5 o5);simp only[lnA,lcA] at HK0;have hs:=zH (HK0.out.takeR 0);clear b5 o5
 refine hK.out _ _ hs (fun hHeld=>?_)
 clear hK K
 try simp only[ap1,ap2,ap3,ap4,ap5]
 refine wpAnyH_ready (rs:=[24]) (by kernel_rfl) (by simp) ?_
 refine AllReadyH.cons (o:=⟨some 27,_,_,_,_,_⟩) rfl (fun K hK=>?_) AllReadyH.nil
 go_simp
 go_at_call 58
 refine(HMm.out _).mono ?_;rintro e w5 ⟨A5,n5,c5,rfl,o5,b5⟩;replace HK0:=zH (HK0.out.called b5 o5);simp only[lnA,lcA] at HK0;have hs:=zH (HK0.out.takeR 0);clear b5 o5
 refine hK.out _ _ hs (fun hHeld=>?_)
 clear hK K
 try simp only[ap1,ap2,ap3,ap4,ap5]
 refine wpAnyH_ready (rs:=[25]) (by kernel_rfl) (by simp) ?_
 refine AllReadyH.cons (o:=⟨some 28,_,_,_,_,_⟩) rfl (fun K hK=>?_) AllReadyH.nil
 refine step_mks5 itemLay itNest HK0 (by rfl) _ _ _ _ _ (by rfl) (by rfl) (by rfl) (by rfl) (by rfl) (by rfl) ?_;intro _ g6 HK' _;simp only[lcA,lnA] at HK';replace HK0:=HK';clear HK';have hs:=zH ((HK0.out.takeL 1).takeR 0)
 refine hK.out _ _ hs (fun hHeld=>?_)
 clear hK K
 try simp only[ap1,ap2,ap3,ap4,ap5]
 refine wpAnyH_ready (rs:=[26]) (by kernel_rfl) (by simp) ?_
 refine AllReadyH.cons (o:=⟨some 29,_,_,_,_,_⟩) rfl (fun K hK=>?_) AllReadyH.nil
 go_simp
 go_at_call 50
 refine(HJ.out.five HK0 1 rfl (Sls.own (HK0.out.own 0 rfl) (HF.out _ (by show 4≤1000;decide))) (Sls.own (HK0.out.own 1 rfl) HF2.out) (Sls.own (HK0.out.own 2 rfl) HF3.out) (Sls.own (HK0.out.own 3 rfl) HF4.out) (Sls.own (HK0.out.own 4 rfl) HF5.out) HBg.out).mono ?_;rintro e w7 ⟨A9,n9,c9,rfl,o9,b9⟩;replace HK0:=zH (HK0.out.called b9 o9).frontR;clear o9 b9;have hs:=zH ((HK0.out.takeL 1).takeR 0)
 refine hK.out _ _ hs (fun hHeld=>?_)
 clear hK K
 try simp only[ap1,ap2,ap3,ap4,ap5]
 refine wpAnyH_take (i:=27) (oi:=⟨some 2,_,_,_,_,_⟩) (v:=?_) rfl (by kernel_rfl) (by kernel_rfl) (by kernel_rfl) (fun _ _ _ h=>h) (Or.inl ⟨by rfl,?_⟩) (by assumption) ?_
 rotate_left
 ·(intro w hSw;(try dsimp only at hSw);go_simp;try with_reducible rfl)
 try simp only[Act.put,List.setIfInBounds_toArray,List.set_cons_zero,List.set_cons_succ]
 refine wpAnyH_done (by kernel_rfl) ?_ _
 rotate_left
 go_simp
 go_at_call 56
 refine(HMr.out _ HK0.out.b).mono ?_;rintro e w5 ⟨A5,n5,c5,rfl,o5,b5⟩;replace HK0:=zH (HK0.out.called b5 o5);simp only[lnA,lcA] at HK0;have hs:=zH (HK0.out.takeR 0);clear b5 o5
 refine hK.out _ _ hs (fun hHeld=>?_)
 clear hK K
 try simp only[ap1,ap2,ap3,ap4,ap5]
 refine wpAnyH_ready (rs:=[12,24]) (by kernel_rfl) (by simp) ?_
 refine AllReadyH.cons (o:=⟨some 15,_,_,_,_,_⟩) rfl (fun K hK=>?_) (AllReadyH.cons (o:=⟨some 27,_,_,_,_,_⟩) rfl (fun K hK=>?_) AllReadyH.nil)
 refine step_mk4 itemLay (p1:=Snp.t1 x.v.name) (p2:=Snp.n1 x.v.kind) (p3:=Snp.n1 x.v.cap) (p4:=Snp.n1 x.v.round) HK0 (by decide) (by rfl) _ _ _ _ (by rfl) (by rfl) (by rfl) (by rfl) (by rfl) (by rfl) (by rfl) (by rfl) (by rfl) ?_;intro _ g5 HK' _;replace HK0:=zH HK'.out.frontR;clear HK';have hs:=zH (HK0.out.takeR 0)
 refine hK.out _ _ hs (fun hHeld=>?_)
 clear hK K
 try simp only[ap1,ap2,ap3,ap4,ap5]
 refine wpAnyH_ready (rs:=[24]) (by kernel_rfl) (by simp) ?_
 refine AllReadyH.cons (o:=⟨some 27,_,_,_,_,_⟩) rfl (fun K hK=>?_) AllReadyH.nil
 go_simp
 go_at_call 58
 refine(HMm.out _).mono ?_;rintro e w5 ⟨A5,n5,c5,rfl,o5,b5⟩;replace HK0:=zH (HK0.out.called b5 o5);simp only[lnA,lcA] at HK0;have hs:=zH (HK0.out.takeR 0);clear b5 o5
 refine hK.out _ _ hs (fun hHeld=>?_)
 clear hK K
 try simp only[ap1,ap2,ap3,ap4,ap5]
 refine wpAnyH_ready (rs:=[25]) (by kernel_rfl) (by simp) ?_
 refine AllReadyH.cons (o:=⟨some 28,_,_,_,_,_⟩) rfl (fun K hK=>?_) AllReadyH.nil
 refine step_mks5 itemLay itNest HK0 (by rfl) _ _ _ _ _ (by rfl) (by rfl) (by rfl) (by rfl) (by rfl) (by rfl) ?_;intro _ g6 HK' _;simp only[lcA,lnA] at HK';replace HK0:=HK';clear HK';have hs:=zH ((HK0.out.takeL 1).takeR 0)
 refine hK.out _ _ hs (fun hHeld=>?_)
 clear hK K
 try simp only[ap1,ap2,ap3,ap4,ap5]
 refine wpAnyH_ready (rs:=[26]) (by kernel_rfl) (by simp) ?_
 refine AllReadyH.cons (o:=⟨some 29,_,_,_,_,_⟩) rfl (fun K hK=>?_) AllReadyH.nil
 go_simp
 go_at_call 50
 refine(HJ.out.five HK0 1 rfl (Sls.own (HK0.out.own 0 rfl) (HF.out _ (by show 4≤1000;decide))) (Sls.own (HK0.out.own 1 rfl) HF2.out) (Sls.own (HK0.out.own 2 rfl) HF3.out) (Sls.own (HK0.out.own 3 rfl) HF4.out) (Sls.own (HK0.out.own 4 rfl) HF5.out) HBg.out).mono ?_;rintro e w7 ⟨A9,n9,c9,rfl,o9,b9⟩;replace HK0:=zH (HK0.out.called b9 o9).frontR;clear o9 b9;have hs:=zH ((HK0.out.takeL 1).takeR 0)
 refine hK.out _ _ hs (fun hHeld=>?_)
 clear hK K
 try simp only[ap1,ap2,ap3,ap4,ap5]
 refine wpAnyH_take (i:=27) (oi:=⟨some 2,_,_,_,_,_⟩) (v:=?_) rfl (by kernel_rfl) (by kernel_rfl) (by kernel_rfl) (fun _ _ _ h=>h) (Or.inl ⟨by rfl,?_⟩) (by assumption) ?_
 rotate_left
 ·(intro w hSw;(try dsimp only at hSw);go_simp;try with_reducible rfl)
 try simp only[Act.put,List.setIfInBounds_toArray,List.set_cons_zero,List.set_cons_succ]
 refine wpAnyH_done (by kernel_rfl) ?_ _
 rotate_left
 go_simp
 go_at_call 58
 refine(HMm.out _).mono ?_;rintro e w5 ⟨A5,n5,c5,rfl,o5,b5⟩;replace HK0:=zH (HK0.out.called b5 o5);simp only[lnA,lcA] at HK0;have hs:=zH (HK0.out.takeR 0);clear b5 o5
 refine hK.out _ _ hs (fun hHeld=>?_)
 clear hK K
 try simp only[ap1,ap2,ap3,ap4,ap5]
 refine wpAnyH_ready (rs:=[12]) (by kernel_rfl) (by simp) ?_
 refine AllReadyH.cons (o:=⟨some 15,_,_,_,_,_⟩) rfl (fun K hK=>?_) AllReadyH.nil
 refine step_mk4 itemLay (p1:=Snp.t1 x.v.name) (p2:=Snp.n1 x.v.kind) (p3:=Snp.n1 x.v.cap) (p4:=Snp.n1 x.v.round) HK0 (by decide) (by rfl) _ _ _ _ (by rfl) (by rfl) (by rfl) (by rfl) (by rfl) (by rfl) (by rfl) (by rfl) (by rfl) ?_;intro _ g5 HK' _;replace HK0:=zH HK'.out.frontR;clear HK';have hs:=zH (HK0.out.takeR 0)
 refine hK.out _ _ hs (fun hHeld=>?_)
 clear hK K
 try simp only[ap1,ap2,ap3,ap4,ap5]
 refine wpAnyH_ready (rs:=[25]) (by kernel_rfl) (by simp) ?_
 refine AllReadyH.cons (o:=⟨some 28,_,_,_,_,_⟩) rfl (fun K hK=>?_) AllReadyH.nil
 refine step_mks5 itemLay itNest HK0 (by rfl) _ _ _ _ _ (by rfl) (by rfl) (by rfl) (by rfl) (by rfl) (by rfl) ?_;intro _ g6 HK' _;simp only[lcA,lnA] at HK';replace HK0:=HK';clear HK';have hs:=zH ((HK0.out.takeL 1).takeR 0)
 refine hK.out _ _ hs (fun hHeld=>?_)
 clear hK K
 try simp only[ap1,ap2,ap3,ap4,ap5]
 refine wpAnyH_ready (rs:=[26]) (by kernel_rfl) (by simp) ?_
 refine AllReadyH.cons (o:=⟨some 29,_,_,_,_,_⟩) rfl (fun K hK=>?_) AllReadyH.nil
 go_simp
 go_at_call 50
 refine(HJ.out.five HK0 1 rfl (Sls.own (HK0.out.own 0 rfl) (HF.out _ (by show 4≤1000;decide))) (Sls.own (HK0.out.own 1 rfl) HF2.out) (Sls.own (HK0.out.own 2 rfl) HF3.out) (Sls.own (HK0.out.own 3 rfl) HF4.out) (Sls.own (HK0.out.own 4 rfl) HF5.out) HBg.out).mono ?_;rintro e w7 ⟨A9,n9,c9,rfl,o9,b9⟩;replace HK0:=zH (HK0.out.called b9 o9).frontR;clear o9 b9;have hs:=zH ((HK0.out.takeL 1).takeR 0)
 refine hK.out _ _ hs (fun hHeld=>?_)
 clear hK K
 try simp only[ap1,ap2,ap3,ap4,ap5]
 refine wpAnyH_take (i:=27) (oi:=⟨some 2,_,_,_,_,_⟩) (v:=?_) rfl (by kernel_rfl) (by kernel_rfl) (by kernel_rfl) (fun _ _ _ h=>h) (Or.inl ⟨by rfl,?_⟩) (by assumption) ?_
 rotate_left
 ·(intro w hSw;(try dsimp only at hSw);go_simp;try with_reducible rfl)
 try simp only[Act.put,List.setIfInBounds_toArray,List.set_cons_zero,List.set_cons_succ]
 refine wpAnyH_done (by kernel_rfl) ?_ _
 rotate_left
 all_goals
  go_wp2_with fail
  go_ret
  exact⟨_,_,_,rfl,HK0.out.own 0 rfl,HK0.out.b⟩
end
end Go.Proofs.Ytieoeendnccafaa
