/- What gate.waits, gate.session, gate.Right and the document's Right return. No condition but those named. -/
import Derived.Test.YtddpmlcpfmmbeaaGreatTk
import Derived.Test.YtddpmlcpfmmbeaaGreatKAI
import Derived.Test.YtddpmlcpfmmbeaaGreatKAH
import Derived.Test.YtddpmlcpfmmbeaaGreatKAF
set_option linter.unusedSimpArgs false
set_option linter.unusedVariables false
set_option maxRecDepth 100000
set_option maxHeartbeats 25600000
namespace Go.Proofs.YtddpmlcpfmmbeaaGreat
section
open Go.RowKit
theorem vchk_any(v:Val.V)(w:World)(hf:vF v):
  Calls Tryz.prog 148 #[vv v] w (IsE (Que.vchk v) w):=by
 have HC:=zH (fun W=>check_any v W hf)
 clear hf
 unfold Que.vchk
 obtain⟨k,n,f,s⟩:=v
 unfold vv IsE at *
 simp only at HC ⊢
 generalize Val.chk ⟨k,n,f,s⟩=z at *
 have HK:=kn1 w 26 (vC k n f s)
 unfold vC at HK
 by_cases hk:k=0
 ·subst hk
  rw[if_pos rfl]
  go_enter Tryz.func148,Tryz.ntmps148
  go_wp2_with fail
  go_ret
  exact⟨rfl,HK.out.b⟩
 ·rw[if_neg hk]
  have hk2:(k==0)=false:=by simpa using hk
  go_enter Tryz.func148,Tryz.ntmps148
  go_wp2_with (first|refine wpList_of_exec (by rfl) (kexec_vv HK 0 _ rfl rfl rfl) ?_)
  refine(HC.out _).mono ?_;rintro e w1 ⟨rfl,b1⟩
  replace HK:=hkC HK b1
  go_wp2_with fail
  go_ret
  exact⟨rfl,HK.out.b⟩
theorem qright_any(N:Int)(A:Option Addr)(c n:Nat)(l:List Val.V)(w:World)(hs:Sls vaLay vF w A n c l):
  Calls Tryz.prog 107 #[.int .i64 N,.slice A n c] w (IsB (decide (Que.Right N l)) w):=by
 have HK:=zH (Kn.start w)
 by_cases h1:N<1
 ·have hd:decide (Que.Right N l)=false:=decide_eq_false fun h=>by have:=h.lo;omega
  rw[hd]
  clear hs hd
  go_enter Tryz.func107,Tryz.ntmps107
  go_wp2_with fail
  go_ret
  exact⟨rfl,HK.out.b⟩
 by_cases h2:8<N
 ·have hd:decide (Que.Right N l)=false:=decide_eq_false fun h=>by have:=h.hi;omega
  rw[hd]
  clear hs hd
  go_enter Tryz.func107,Tryz.ntmps107
  go_wp2_with fail
  go_ret
  exact⟨rfl,HK.out.b⟩
 by_cases h3:N<(n:Int)
 ·have hd:decide (Que.Right N l)=false:=decide_eq_false fun h=>by have:=h.len;rw[hs.len] at this;omega
  rw[hd]
  clear hs hd
  go_enter Tryz.func107,Tryz.ntmps107
  go_wp2_with fail
  go_ret
  exact⟨rfl,HK.out.b⟩
 obtain⟨hno,hyes⟩:=Que.right_told (n:=N) (l:=l) hs.len (by omega) (by omega) (by omega)
 have HNo:=zH hno
 have HYes:=zH hyes
 have HS:=zH hs
 have hn9:n<9:=by omega
 clear hs hno hyes
 generalize decide (Que.Right N l)=r at *
 go_enter Tryz.func107,Tryz.ntmps107
 go_wp2_with fail
 go_loopw [21] (fun vi wr=>∃k:Nat,k≤n∧vi=.int .i64 k∧Hid (∀(i:Nat) v,i<k→l[i]?=some v→Que.vchk v=0)∧Hid (Kn w.heap.size w wr [] [])) (fun vi _=>n-(intOf vi).toNat)
 case atStart=>exact⟨0,Nat.zero_le _,rfl,zH (fun i v hi=>by omega),HK⟩
 case round=>
  clear HK
  obtain⟨k,hk,rfl,HGo,HK⟩:=hrel
  have hk1:(0:Int)≤(k:Int):=by omega
  by_cases hlt:k<n
  ·have hk2:(k:Int)<(n:Int):=by omega
   have hk3:k<9223372036854775807:=by omega
   obtain⟨x,hx,hf⟩:=HS.out.get hlt
   obtain⟨b,o,rfl,hat⟩:=HS.out.at (Nat.lt_of_le_of_lt (Nat.zero_le _) hlt)
   have HX:=zH (fun W hW=>hat W hW k x hx)
   have HV:=zH (fun W=>vchk_any x W hf)
   have HN:=zH (HNo.out k x hx)
   have HGk:Hid (Que.vchk x=0→∀(i:Nat) v,i<k+1→l[i]?=some v→Que.vchk v=0):=zH fun h i v hi hv=>by
    by_cases hik:i=k
    ·subst hik;rw[hx] at hv;injection hv with hv;subst hv;exact h
    ·exact HGo.out i v (by omega) hv
   clear hat hx hf
   obtain⟨vk,vn,vf,vs⟩:=x
   unfold vv IsE at HV
   simp only at HV
   generalize Que.vchk ⟨vk,vn,vf,vs⟩=z at *
   go_wp2_with (first|refine wpList_of_exec (by rfl) (exec_lva (off:=o+k*4) _ (by rfl) (by rfl) (HX.out _ HK.out.b)) ?_|(refine wpList_akv HK rfl rfl ?_;intro _ g2 HK';simp only[lcA,lnA] at HK';replace HK:=HK';clear HK')|(refine wpList_sv (f2:=vf) HK 0 rfl _ _ rfl rfl rfl rfl ?_;intro _ HK';simp only[List.set] at HK';replace HK:=HK';clear HK')|refine wpList_of_exec (by rfl) (kexec_vv HK 0 _ (by rfl) (by rfl) (by rfl)) ?_)
   refine(HV.out _).mono ?_;rintro e w1 ⟨rfl,b1⟩
   replace HK:=hkC HK b1;clear b1
   by_cases hz:z=0
   ·subst hz
    replace HGk:=zH (HGk.out rfl)
    go_wp2_with (first|refine wpList_of_exec (by rfl) (exec_add1 (j:=k) _ (by rfl) (by rfl) hk3) ?_)
    exact⟨⟨k+1,hlt,rfl,HGk,zH (HK.out.takeL 0)⟩,by simp[intOf];omega⟩
   ·have hz2:(z != 0)=true:=by simpa using hz
    have HR:=zH (HN.out hz)
    go_wp2_with fail
    go_ret
    exact⟨by rw[HR.out]<;>rfl,HK.out.b⟩
  ·obtain rfl:k=n:=by omega
   have HR:Hid (r=true):=zH (HYes.out HGo.out)
   go_wp2_with fail
   go_ret
   exact⟨by rw[HR.out]<;>rfl,HK.out.b⟩
theorem qchk_any(N:Int)(A:Option Addr)(c n:Nat)(l:List Val.V)(w:World)(hs:Sls vaLay vF w A n c l):
  Calls Tryz.prog 189 #[.int .i64 N,.slice A n c] w (IsE (Que.qchk N l) w):=by
 have HR:=zH (qright_any N A c n l w hs)
 clear hs
 unfold IsE IsB at *
 by_cases h:Que.Right N l
 ·rw[decide_eq_true h] at HR
  rw[Que.qchk_ok h]
  clear h
  go_enter Tryz.func189,Tryz.ntmps189
  go_wp2_with fail
  refine HR.out.mono ?_;rintro e w1 ⟨rfl,b1⟩
  go_wp2_with fail
  go_ret
  exact⟨rfl,b1⟩
 ·rw[decide_eq_false h] at HR
  rw[Que.qchk_bad h]
  clear h
  go_enter Tryz.func189,Tryz.ntmps189
  go_wp2_with fail
  refine HR.out.mono ?_;rintro e w1 ⟨rfl,b1⟩
  go_wp2_with fail
  go_ret
  exact⟨rfl,b1⟩
end
section
open Go.RowKit
theorem cmr_any(x:Rf)(w:World):Calls Tryz.prog 47 #[.agg #[.int .i64 x.c,.int .i64 x.e,.int .i64 x.r]] w (IsB (decide (Lck.ok x)) w):=by
 have HE:Hid (∀q:Bool,(q=true↔(0≤x.c∧x.c<5∧1≤x.e∧0≤x.r))→q=decide (Lck.ok x)):=zH fun q hq=>by
  rw[Bool.eq_iff_iff,hq,decide_eq_true_eq]
  exact Iff.rfl
 generalize decide (Lck.ok x)=r at *
 obtain⟨c,ep,rq⟩:=x
 simp only at HE ⊢
 have HK:=kn1 w 35 #[.int .i64 c,.int .i64 ep,.int .i64 rq]
 go_enter Tryz.func47,Tryz.ntmps47
 go_wp2_with fail
 all_goals
  go_ret
  refine⟨congrArg (fun b=>Ending.returned (.bool b)) (HE.out _ ?_),HK.out.b⟩
  clear HE HK
  simp_all<;>omega
end
section
open Go.RowKit
theorem asked_any(A:Option Addr)(c n:Nat)(l:List Rf)(q:Int)(w:World)(hs:Sls rfLay rF w A n c l):
  Calls Tryz.prog 149 #[.slice A n c,.int .i64 q] w (IsB (Lck.asked l q) w):=by
 obtain⟨hyes,hno⟩:=Lck.asked_told hs.len q
 have HYes:=zH hyes
 have HNo:=zH hno
 have HS:=zH hs
 have HK:=zH (Kn.start w)
 have hn63:n<9223372036854775807:=by
  have h:n*24≤140737488355328:=hs.big
  omega
 clear hs hyes hno
 generalize Lck.asked l q=r at *
 go_enter Tryz.func149,Tryz.ntmps149
 go_wp2_with fail
 go_loopw [9] (fun vi wr=>∃k:Nat,k≤n∧vi=.int .i64 k∧Hid (∀(i:Nat) x,i<k→l[i]?=some x→¬x.c=q)∧Hid (Kn w.heap.size w wr [] [])) (fun vi _=>n-(intOf vi).toNat)
 case atStart=>exact⟨0,Nat.zero_le _,rfl,zH (fun i v hi=>by omega),HK⟩
 case round=>
  clear HK
  obtain⟨k,hk,rfl,HGo,HK⟩:=hrel
  have hk1:(0:Int)≤(k:Int):=by omega
  by_cases hlt:k<n
  ·have hk2:(k:Int)<(n:Int):=by omega
   have hk3:k<9223372036854775807:=by omega
   obtain⟨x,hx,_⟩:=HS.out.get hlt
   obtain⟨b,o,rfl,hat⟩:=HS.out.at (Nat.lt_of_le_of_lt (Nat.zero_le _) hlt)
   have HX:=zH (fun W hW=>hat W hW k x hx)
   have HY:=zH (HYes.out k x hx)
   have HGk:Hid (¬x.c=q→∀(i:Nat) v,i<k+1→l[i]?=some v→¬v.c=q):=zH fun h i v hi hv=>by
    by_cases hik:i=k
    ·subst hik;rw[hx] at hv;injection hv with hv;subst hv;exact h
    ·exact HGo.out i v (by omega) hv
   clear hat hx
   by_cases he:x.c=q
   ·have HR:=zH (HY.out he)
    have he2:(x.c==q)=true:=by simpa using he
    clear he HGk HY
    go_wp2_with (first|refine wpList_exe (exec_lr (x:=x) (off:=o+k*3) _ (by rfl) (by rfl) (HX.out _ HK.out.b)) (by rfl) ?_|(refine wpList_akr HK rfl rfl ?_;intro _ g2 HK';simp only[lcA,lnA] at HK';replace HK:=HK';clear HK')|(refine wpList_sr HK 0 rfl _ _ rfl rfl rfl rfl ?_;intro _ HK';simp only[List.set] at HK';replace HK:=HK';clear HK')|refine wpList_exe (kexec_lc0 HK 0 _ (by rfl) (by rfl) (by rfl)) (by rfl) ?_)
    go_ret
    exact⟨by rw[HR.out]<;>rfl,HK.out.b⟩
   ·have he2:(x.c==q)=false:=by simpa using he
    replace HGk:=zH (HGk.out he)
    clear he HY
    go_wp2_with (first|refine wpList_exe (exec_lr (x:=x) (off:=o+k*3) _ (by rfl) (by rfl) (HX.out _ HK.out.b)) (by rfl) ?_|(refine wpList_akr HK rfl rfl ?_;intro _ g2 HK';simp only[lcA,lnA] at HK';replace HK:=HK';clear HK')|(refine wpList_sr HK 0 rfl _ _ rfl rfl rfl rfl ?_;intro _ HK';simp only[List.set] at HK';replace HK:=HK';clear HK')|refine wpList_exe (kexec_lc0 HK 0 _ (by rfl) (by rfl) (by rfl)) (by rfl) ?_|refine wpList_exe (exec_add1 (j:=k) _ (by rfl) (by rfl) hk3) (by rfl) ?_)
    exact⟨⟨k+1,hlt,rfl,HGk,zH (HK.out.takeL 0)⟩,by simp[intOf];omega⟩
  ·obtain rfl:k=n:=by omega
   have HR:=zH (HNo.out HGo.out)
   go_wp2_with fail
   go_ret
   exact⟨by rw[HR.out]<;>rfl,HK.out.b⟩
theorem mine_ne(x r:Rf):(!decide ((⟨x.c,x.e,0⟩:Rf)=⟨r.c,r.e,0⟩))=!decide (Lck.mine x r):=by
 by_cases h:Lck.mine x r
 ·rw[decide_eq_true h,decide_eq_true (by rw[h.1,h.2])]
 ·rw[decide_eq_false h,decide_eq_false (fun e=>h (by injection e with e1 e2;exact⟨e1,e2⟩))]
theorem fits_one(r:Rf):Fits rfLay rF [r]:=⟨fun x hx=>trivial,by show 1*24≤_;decide⟩
end
section
open Go.RowKit
theorem lright_any(A:Option Addr)(c n:Nat)(l:List Rf)(w:World)(hs:Sls rfLay rF w A n c l):
  Calls Tryz.prog 108 #[.slice A n c] w (IsB (decide (Lck.Right l)) w):=by
 obtain⟨hno,hyes⟩:=Lck.right_told hs.len
 have HNo:=zH hno
 have HYes:=zH hyes
 have HS:=zH hs
 have HC:=zH (fun x W=>cmr_any x W)
 have HAs:=zH (fun W A c n l q (h:Sls rfLay rF W A n c l)=>asked_any A c n l q W h)
 have HK:=zH (Kn.start w)
 have hn63:n<9223372036854775807:=by
  have h:n*24≤140737488355328:=hs.big
  omega
 have hnc:n≤c:=hs.cap
 clear hs hyes hno
 unfold IsB at *
 generalize decide (Lck.Right l)=r at *
 go_enter Tryz.func108,Tryz.ntmps108
 go_wp2_with fail
 go_loopw [7] (fun vi wr=>∃k:Nat,k≤n∧vi=.int .i64 k∧Hid (∀(i:Nat) x,i<k→l[i]?=some x→Lck.ok x∧Lck.asked (l.take i) x.c=false)∧Hid (Kn w.heap.size w wr [] [])) (fun vi _=>n-(intOf vi).toNat)
 case atStart=>exact⟨0,Nat.zero_le _,rfl,zH (fun i v hi=>by omega),HK⟩
 case round=>
  clear HK
  obtain⟨k,hk,rfl,HGo,HK⟩:=hrel
  have hk1:(0:Int)≤(k:Int):=by omega
  by_cases hlt:k<n
  ·have hk2:(k:Int)<(n:Int):=by omega
   have hk3:k<9223372036854775807:=by omega
   have hkc:k≤c:=by omega
   obtain⟨x,hx,_⟩:=HS.out.get hlt
   have HP:=zH (fun W (hW:Below w.heap.size w W)=>HAs.out W A c k (l.take k) x.c ((HS.out.later hW).take hk))
   obtain⟨b,o,rfl,hat⟩:=HS.out.at (Nat.lt_of_le_of_lt (Nat.zero_le _) hlt)
   have HX:=zH (fun W hW=>hat W hW k x hx)
   have HN:=zH (HNo.out k x hlt hx)
   have HGk:Hid (Lck.ok x∧Lck.asked (l.take k) x.c=false→∀(i:Nat) v,i<k+1→l[i]?=some v→Lck.ok v∧Lck.asked (l.take i) v.c=false):=zH fun h i v hi hv=>by
    by_cases hik:i=k
    ·subst hik;rw[hx] at hv;injection hv with hv;subst hv;exact h
    ·exact HGo.out i v (by omega) hv
   clear hat hx HNo HAs
   have HCx:=zH (fun W=>HC.out x W)
   clear HC
   by_cases hok:Lck.ok x
   case neg=>
    have HR:=zH (HN.out (fun h=>hok h.1))
    rw[decide_eq_false hok] at HCx
    clear hok HN HGk HP
    go_wp2_with (first|refine wpList_exe (exec_lr (x:=x) (off:=o+k*3) _ (by rfl) (by rfl) (HX.out _ HK.out.b)) (by rfl) ?_|(refine wpList_akr HK rfl rfl ?_;intro _ g2 HK';simp only[lcA,lnA] at HK';replace HK:=HK';clear HK')|(refine wpList_sr HK 0 rfl _ _ rfl rfl rfl rfl ?_;intro _ HK';simp only[List.set] at HK';replace HK:=HK';clear HK'))
    refine wp_region_held_drew (S:=(fun W=>Hid (Kn w.heap.size w W [(g2,35,#[.int .i64 x.c,.int .i64 x.e,.int .i64 x.r])] []))) (by kernel_rfl) ?_ (fun hHeld=>?_)
    ·(try dsimp only);exact zH HK.out.drew
    refine wpAnyH_take (i:=0) (oi:=⟨some 12,_,_,_,_,_⟩) (v:=?_) rfl (by kernel_rfl) (by kernel_rfl) (by kernel_rfl) (fun _ _ _ h=>h) (Or.inl ⟨by rfl,?_⟩) (by assumption) ?_
    rotate_left
    ·(intro w hSw;refine Eq.trans (kexec_lr hSw 0 _ (by rfl) (by rfl) (by rfl)) ?_;with_reducible rfl)
    try simp only[Act.put,List.setIfInBounds_toArray,List.set_cons_zero,List.set_cons_succ]
    refine wpAnyH_ready (rs:=[1]) (by kernel_rfl) (by simp) ?_
    refine AllReadyH.cons (o:=⟨some 13,_,_,_,_,_⟩) rfl (fun K hK=>?_) AllReadyH.nil
    go_simp
    go_at_call 47
    refine(HCx.out _).mono ?_;rintro e w5 ⟨rfl,b5⟩;have hs:=zH (hHeld.out.call b5);clear b5
    refine hK.out _ _ hs (fun hHeld=>?_)
    clear hK K
    try simp only[ap1,ap2,ap3,ap4,ap5]
    refine wpAnyH_take (i:=2) (oi:=⟨some 14,_,_,_,_,_⟩) (v:=?_) rfl (by kernel_rfl) (by kernel_rfl) (by kernel_rfl) (fun _ _ _ h=>h) (Or.inl ⟨by rfl,?_⟩) (by assumption) ?_
    rotate_left
    ·(intro w hSw;(try dsimp only at hSw);go_simp;try with_reducible rfl)
    try simp only[Act.put,List.setIfInBounds_toArray,List.set_cons_zero,List.set_cons_succ]
    refine wpAnyH_take (i:=3) (oi:=⟨some 15,_,_,_,_,_⟩) (v:=?_) rfl (by kernel_rfl) (by kernel_rfl) (by kernel_rfl) (fun _ _ _ h=>h) (Or.inl ⟨by rfl,?_⟩) (by assumption) ?_
    rotate_left
    ·(intro w hSw;(try dsimp only at hSw);go_simp;try with_reducible rfl)
    try simp only[Act.put,List.setIfInBounds_toArray,List.set_cons_zero,List.set_cons_succ]
    refine wpAnyH_take (i:=4) (oi:=⟨some 16,_,_,_,_,_⟩) (v:=undef) rfl (by kernel_rfl) (by kernel_rfl) (by kernel_rfl) (fun _ _ _ h=>h) (Or.inr ⟨by rfl,rfl⟩) (by assumption) ?_
    try simp only[Act.put,List.setIfInBounds_toArray,List.set_cons_zero,List.set_cons_succ]
    refine wpAnyH_take (i:=5) (oi:=⟨some 17,_,_,_,_,_⟩) (v:=undef) rfl (by kernel_rfl) (by kernel_rfl) (by kernel_rfl) (fun _ _ _ h=>h) (Or.inr ⟨by rfl,rfl⟩) (by assumption) ?_
    try simp only[Act.put,List.setIfInBounds_toArray,List.set_cons_zero,List.set_cons_succ]
    refine wpAnyH_take (i:=6) (oi:=⟨some 18,_,_,_,_,_⟩) (v:=undef) rfl (by kernel_rfl) (by kernel_rfl) (by kernel_rfl) (fun _ _ _ h=>h) (Or.inr ⟨by rfl,rfl⟩) (by assumption) ?_
    try simp only[Act.put,List.setIfInBounds_toArray,List.set_cons_zero,List.set_cons_succ]
    refine wpAnyH_take (i:=7) (oi:=⟨some 19,_,_,_,_,_⟩) (v:=undef) rfl (by kernel_rfl) (by kernel_rfl) (by kernel_rfl) (fun _ _ _ h=>h) (Or.inr ⟨by rfl,rfl⟩) (by assumption) ?_
    try simp only[Act.put,List.setIfInBounds_toArray,List.set_cons_zero,List.set_cons_succ]
    refine wpAnyH_take (i:=8) (oi:=⟨some 20,_,_,_,_,_⟩) (v:=undef) rfl (by kernel_rfl) (by kernel_rfl) (by kernel_rfl) (fun _ _ _ h=>h) (Or.inr ⟨by rfl,rfl⟩) (by assumption) ?_
    try simp only[Act.put,List.setIfInBounds_toArray,List.set_cons_zero,List.set_cons_succ]
    refine wpAnyH_take (i:=9) (oi:=⟨some 21,_,_,_,_,_⟩) (v:=undef) rfl (by kernel_rfl) (by kernel_rfl) (by kernel_rfl) (fun _ _ _ h=>h) (Or.inr ⟨by rfl,rfl⟩) (by assumption) ?_
    try simp only[Act.put,List.setIfInBounds_toArray,List.set_cons_zero,List.set_cons_succ]
    refine wpAnyH_take (i:=10) (oi:=⟨some 22,_,_,_,_,_⟩) (v:=?_) rfl (by kernel_rfl) (by kernel_rfl) (by kernel_rfl) (fun _ _ _ h=>h) (Or.inl ⟨by rfl,?_⟩) (by assumption) ?_
    rotate_left
    ·(intro w hSw;(try dsimp only at hSw);go_simp;try with_reducible rfl)
    try simp only[Act.put,List.setIfInBounds_toArray,List.set_cons_zero,List.set_cons_succ]
    refine wpAnyH_done (by kernel_rfl) ?_ _
    go_wp2_with fail
    go_ret
    exact⟨by rw[HR.out]<;>rfl,hHeld.out.b⟩
   case pos=>
   rw[decide_eq_true hok] at HCx
   by_cases has:Lck.asked (l.take k) x.c=true
   ·have HR:=zH (HN.out (fun h=>by rw[has] at h;cases h.2))
    rw[has] at HP
    clear hok HN HGk has
    go_wp2_with (first|refine wpList_exe (exec_lr (x:=x) (off:=o+k*3) _ (by rfl) (by rfl) (HX.out _ HK.out.b)) (by rfl) ?_|(refine wpList_akr HK rfl rfl ?_;intro _ g2 HK';simp only[lcA,lnA] at HK';replace HK:=HK';clear HK')|(refine wpList_sr HK 0 rfl _ _ rfl rfl rfl rfl ?_;intro _ HK';simp only[List.set] at HK';replace HK:=HK';clear HK'))
    refine wp_region_held_drew (S:=(fun W=>Hid (Kn w.heap.size w W [(g2,35,#[.int .i64 x.c,.int .i64 x.e,.int .i64 x.r])] []))) (by kernel_rfl) ?_ (fun hHeld=>?_)
    ·(try dsimp only);exact zH HK.out.drew
    refine wpAnyH_take (i:=0) (oi:=⟨some 12,_,_,_,_,_⟩) (v:=?_) rfl (by kernel_rfl) (by kernel_rfl) (by kernel_rfl) (fun _ _ _ h=>h) (Or.inl ⟨by rfl,?_⟩) (by assumption) ?_
    rotate_left
    ·(intro w hSw;refine Eq.trans (kexec_lr hSw 0 _ (by rfl) (by rfl) (by rfl)) ?_;with_reducible rfl)
    try simp only[Act.put,List.setIfInBounds_toArray,List.set_cons_zero,List.set_cons_succ]
    refine wpAnyH_ready (rs:=[1]) (by kernel_rfl) (by simp) ?_
    refine AllReadyH.cons (o:=⟨some 13,_,_,_,_,_⟩) rfl (fun K hK=>?_) AllReadyH.nil
    go_simp
    go_at_call 47
    refine(HCx.out _).mono ?_;rintro e w5 ⟨rfl,b5⟩;have hs:=zH (hHeld.out.call b5);clear b5
    refine hK.out _ _ hs (fun hHeld=>?_)
    clear hK K
    try simp only[ap1,ap2,ap3,ap4,ap5]
    refine wpAnyH_take (i:=2) (oi:=⟨some 14,_,_,_,_,_⟩) (v:=?_) rfl (by kernel_rfl) (by kernel_rfl) (by kernel_rfl) (fun _ _ _ h=>h) (Or.inl ⟨by rfl,?_⟩) (by assumption) ?_
    rotate_left
    ·(intro w hSw;(try dsimp only at hSw);go_simp;try with_reducible rfl)
    try simp only[Act.put,List.setIfInBounds_toArray,List.set_cons_zero,List.set_cons_succ]
    refine wpAnyH_take (i:=3) (oi:=⟨some 15,_,_,_,_,_⟩) (v:=?_) rfl (by kernel_rfl) (by kernel_rfl) (by kernel_rfl) (fun _ _ _ h=>h) (Or.inl ⟨by rfl,?_⟩) (by assumption) ?_
    rotate_left
    ·(intro w hSw;(try dsimp only at hSw);go_simp;try with_reducible rfl)
    try simp only[Act.put,List.setIfInBounds_toArray,List.set_cons_zero,List.set_cons_succ]
    refine wpAnyH_take (i:=4) (oi:=⟨some 16,_,_,_,_,_⟩) (v:=?_) rfl (by kernel_rfl) (by kernel_rfl) (by kernel_rfl) (fun _ _ _ h=>h) (Or.inl ⟨by rfl,?_⟩) (by assumption) ?_
    rotate_left
    ·(intro w hSw;(try dsimp only at hSw);go_simp;try with_reducible rfl)
    try simp only[Act.put,List.setIfInBounds_toArray,List.set_cons_zero,List.set_cons_succ]
    refine wpAnyH_take (i:=5) (oi:=⟨some 17,_,_,_,_,_⟩) (v:=?_) rfl (by kernel_rfl) (by kernel_rfl) (by kernel_rfl) (fun _ _ _ h=>h) (Or.inl ⟨by rfl,?_⟩) (by assumption) ?_
    rotate_left
    ·(intro w hSw;(try dsimp only at hSw);go_simp;try with_reducible rfl)
    try simp only[Act.put,List.setIfInBounds_toArray,List.set_cons_zero,List.set_cons_succ]
    refine wpAnyH_take (i:=6) (oi:=⟨some 18,_,_,_,_,_⟩) (v:=?_) rfl (by kernel_rfl) (by kernel_rfl) (by kernel_rfl) (fun _ _ _ h=>h) (Or.inl ⟨by rfl,?_⟩) (by assumption) ?_
    rotate_left
    ·(intro w hSw;refine Eq.trans (exec_srh (hi:=k) _ _ (by rfl) (by rfl) (by rfl) hkc) ?_;with_reducible rfl)
    try simp only[Act.put,List.setIfInBounds_toArray,List.set_cons_zero,List.set_cons_succ]
    refine wpAnyH_take (i:=7) (oi:=⟨some 19,_,_,_,_,_⟩) (v:=?_) rfl (by kernel_rfl) (by kernel_rfl) (by kernel_rfl) (fun _ _ _ h=>h) (Or.inl ⟨by rfl,?_⟩) (by assumption) ?_
    rotate_left
    ·(intro w hSw;(try dsimp only at hSw);go_simp;try with_reducible rfl)
    try simp only[Act.put,List.setIfInBounds_toArray,List.set_cons_zero,List.set_cons_succ]
    refine wpAnyH_take (i:=8) (oi:=⟨some 20,_,_,_,_,_⟩) (v:=?_) rfl (by kernel_rfl) (by kernel_rfl) (by kernel_rfl) (fun _ _ _ h=>h) (Or.inl ⟨by rfl,?_⟩) (by assumption) ?_
    rotate_left
    ·(intro w hSw;refine Eq.trans (kexec_lc0 hSw 0 _ (by rfl) (by rfl) (by rfl)) ?_;with_reducible rfl)
    try simp only[Act.put,List.setIfInBounds_toArray,List.set_cons_zero,List.set_cons_succ]
    refine wpAnyH_ready (rs:=[9]) (by kernel_rfl) (by simp) ?_
    refine AllReadyH.cons (o:=⟨some 21,_,_,_,_,_⟩) rfl (fun K hK=>?_) AllReadyH.nil
    go_simp
    go_at_call 149
    refine(HP.out _ hHeld.out.b).mono ?_;rintro e w5 ⟨rfl,b5⟩;have hs:=zH (hHeld.out.call b5);clear b5
    refine hK.out _ _ hs (fun hHeld=>?_)
    clear hK K
    try simp only[ap1,ap2,ap3,ap4,ap5]
    refine wpAnyH_take (i:=10) (oi:=⟨some 22,_,_,_,_,_⟩) (v:=?_) rfl (by kernel_rfl) (by kernel_rfl) (by kernel_rfl) (fun _ _ _ h=>h) (Or.inl ⟨by rfl,?_⟩) (by assumption) ?_
    rotate_left
    ·(intro w hSw;(try dsimp only at hSw);go_simp;try with_reducible rfl)
    try simp only[Act.put,List.setIfInBounds_toArray,List.set_cons_zero,List.set_cons_succ]
    refine wpAnyH_done (by kernel_rfl) ?_ _
    go_wp2_with fail
    go_ret
    exact⟨by rw[HR.out]<;>rfl,hHeld.out.b⟩
   ·have has2:Lck.asked (l.take k) x.c=false:=Bool.eq_false_iff.2 has
    replace HGk:=zH (HGk.out ⟨hok,has2⟩)
    rw[has2] at HP
    clear hok HN has has2
    go_wp2_with (first|refine wpList_exe (exec_lr (x:=x) (off:=o+k*3) _ (by rfl) (by rfl) (HX.out _ HK.out.b)) (by rfl) ?_|(refine wpList_akr HK rfl rfl ?_;intro _ g2 HK';simp only[lcA,lnA] at HK';replace HK:=HK';clear HK')|(refine wpList_sr HK 0 rfl _ _ rfl rfl rfl rfl ?_;intro _ HK';simp only[List.set] at HK';replace HK:=HK';clear HK'))
    refine wp_region_held_drew (S:=(fun W=>Hid (Kn w.heap.size w W [(g2,35,#[.int .i64 x.c,.int .i64 x.e,.int .i64 x.r])] []))) (by kernel_rfl) ?_ (fun hHeld=>?_)
    ·(try dsimp only);exact zH HK.out.drew
    refine wpAnyH_take (i:=0) (oi:=⟨some 12,_,_,_,_,_⟩) (v:=?_) rfl (by kernel_rfl) (by kernel_rfl) (by kernel_rfl) (fun _ _ _ h=>h) (Or.inl ⟨by rfl,?_⟩) (by assumption) ?_
    rotate_left
    ·(intro w hSw;refine Eq.trans (kexec_lr hSw 0 _ (by rfl) (by rfl) (by rfl)) ?_;with_reducible rfl)
    try simp only[Act.put,List.setIfInBounds_toArray,List.set_cons_zero,List.set_cons_succ]
    refine wpAnyH_ready (rs:=[1]) (by kernel_rfl) (by simp) ?_
    refine AllReadyH.cons (o:=⟨some 13,_,_,_,_,_⟩) rfl (fun K hK=>?_) AllReadyH.nil
    go_simp
    go_at_call 47
    refine(HCx.out _).mono ?_;rintro e w5 ⟨rfl,b5⟩;have hs:=zH (hHeld.out.call b5);clear b5
    refine hK.out _ _ hs (fun hHeld=>?_)
    clear hK K
    try simp only[ap1,ap2,ap3,ap4,ap5]
    refine wpAnyH_take (i:=2) (oi:=⟨some 14,_,_,_,_,_⟩) (v:=?_) rfl (by kernel_rfl) (by kernel_rfl) (by kernel_rfl) (fun _ _ _ h=>h) (Or.inl ⟨by rfl,?_⟩) (by assumption) ?_
    rotate_left
    ·(intro w hSw;(try dsimp only at hSw);go_simp;try with_reducible rfl)
    try simp only[Act.put,List.setIfInBounds_toArray,List.set_cons_zero,List.set_cons_succ]
    refine wpAnyH_take (i:=3) (oi:=⟨some 15,_,_,_,_,_⟩) (v:=?_) rfl (by kernel_rfl) (by kernel_rfl) (by kernel_rfl) (fun _ _ _ h=>h) (Or.inl ⟨by rfl,?_⟩) (by assumption) ?_
    rotate_left
    ·(intro w hSw;(try dsimp only at hSw);go_simp;try with_reducible rfl)
    try simp only[Act.put,List.setIfInBounds_toArray,List.set_cons_zero,List.set_cons_succ]
    refine wpAnyH_take (i:=4) (oi:=⟨some 16,_,_,_,_,_⟩) (v:=?_) rfl (by kernel_rfl) (by kernel_rfl) (by kernel_rfl) (fun _ _ _ h=>h) (Or.inl ⟨by rfl,?_⟩) (by assumption) ?_
    rotate_left
    ·(intro w hSw;(try dsimp only at hSw);go_simp;try with_reducible rfl)
    try simp only[Act.put,List.setIfInBounds_toArray,List.set_cons_zero,List.set_cons_succ]
    refine wpAnyH_take (i:=5) (oi:=⟨some 17,_,_,_,_,_⟩) (v:=?_) rfl (by kernel_rfl) (by kernel_rfl) (by kernel_rfl) (fun _ _ _ h=>h) (Or.inl ⟨by rfl,?_⟩) (by assumption) ?_
    rotate_left
    ·(intro w hSw;(try dsimp only at hSw);go_simp;try with_reducible rfl)
    try simp only[Act.put,List.setIfInBounds_toArray,List.set_cons_zero,List.set_cons_succ]
    refine wpAnyH_take (i:=6) (oi:=⟨some 18,_,_,_,_,_⟩) (v:=?_) rfl (by kernel_rfl) (by kernel_rfl) (by kernel_rfl) (fun _ _ _ h=>h) (Or.inl ⟨by rfl,?_⟩) (by assumption) ?_
    rotate_left
    ·(intro w hSw;refine Eq.trans (exec_srh (hi:=k) _ _ (by rfl) (by rfl) (by rfl) hkc) ?_;with_reducible rfl)
    try simp only[Act.put,List.setIfInBounds_toArray,List.set_cons_zero,List.set_cons_succ]
    refine wpAnyH_take (i:=7) (oi:=⟨some 19,_,_,_,_,_⟩) (v:=?_) rfl (by kernel_rfl) (by kernel_rfl) (by kernel_rfl) (fun _ _ _ h=>h) (Or.inl ⟨by rfl,?_⟩) (by assumption) ?_
    rotate_left
    ·(intro w hSw;(try dsimp only at hSw);go_simp;try with_reducible rfl)
    try simp only[Act.put,List.setIfInBounds_toArray,List.set_cons_zero,List.set_cons_succ]
    refine wpAnyH_take (i:=8) (oi:=⟨some 20,_,_,_,_,_⟩) (v:=?_) rfl (by kernel_rfl) (by kernel_rfl) (by kernel_rfl) (fun _ _ _ h=>h) (Or.inl ⟨by rfl,?_⟩) (by assumption) ?_
    rotate_left
    ·(intro w hSw;refine Eq.trans (kexec_lc0 hSw 0 _ (by rfl) (by rfl) (by rfl)) ?_;with_reducible rfl)
    try simp only[Act.put,List.setIfInBounds_toArray,List.set_cons_zero,List.set_cons_succ]
    refine wpAnyH_ready (rs:=[9]) (by kernel_rfl) (by simp) ?_
    refine AllReadyH.cons (o:=⟨some 21,_,_,_,_,_⟩) rfl (fun K hK=>?_) AllReadyH.nil
    go_simp
    go_at_call 149
    refine(HP.out _ hHeld.out.b).mono ?_;rintro e w5 ⟨rfl,b5⟩;have hs:=zH (hHeld.out.call b5);clear b5
    refine hK.out _ _ hs (fun hHeld=>?_)
    clear hK K
    try simp only[ap1,ap2,ap3,ap4,ap5]
    refine wpAnyH_take (i:=10) (oi:=⟨some 22,_,_,_,_,_⟩) (v:=?_) rfl (by kernel_rfl) (by kernel_rfl) (by kernel_rfl) (fun _ _ _ h=>h) (Or.inl ⟨by rfl,?_⟩) (by assumption) ?_
    rotate_left
    ·(intro w hSw;(try dsimp only at hSw);go_simp;try with_reducible rfl)
    try simp only[Act.put,List.setIfInBounds_toArray,List.set_cons_zero,List.set_cons_succ]
    refine wpAnyH_done (by kernel_rfl) ?_ _
    replace HK:=hHeld
    clear hHeld
    go_wp2_with (first|refine wpList_exe (exec_add1 (j:=k) _ (by rfl) (by rfl) hk3) (by rfl) ?_)
    exact⟨⟨k+1,hlt,rfl,HGk,zH (HK.out.takeL 0)⟩,by simp[intOf];omega⟩
  ·obtain rfl:k=n:=by omega
   have HR:=zH (HYes.out HGo.out)
   go_wp2_with fail
   go_ret
   exact⟨by rw[HR.out]<;>rfl,HK.out.b⟩
end
section
open Go.RowKit
theorem waits_any(A:Option Addr)(c n:Nat)(l:List Rf)(q:Int)(w:World)(hs:Sls rfLay rF w A n c l):
  Calls Tryz.prog 196 #[.slice A n c,.int .i64 q] w (IsB (Lck.asked l q) w):=by
 obtain⟨hyes,hno⟩:=Lck.asked_told hs.len q
 have HYes:=zH hyes
 have HNo:=zH hno
 have HS:=zH hs
 have HK:=zH (Kn.start w)
 have hn63:n<9223372036854775807:=by
  have h:n*24≤140737488355328:=hs.big
  omega
 clear hs hyes hno
 generalize Lck.asked l q=r at *
 go_enter Tryz.func196,Tryz.ntmps196
 go_wp2_with fail
 go_loopw [9] (fun vi wr=>∃k:Nat,k≤n∧vi=.int .i64 k∧Hid (∀(i:Nat) x,i<k→l[i]?=some x→¬x.c=q)∧Hid (Kn w.heap.size w wr [] [])) (fun vi _=>n-(intOf vi).toNat)
 case atStart=>exact⟨0,Nat.zero_le _,rfl,zH (fun i v hi=>by omega),HK⟩
 case round=>
  clear HK
  obtain⟨k,hk,rfl,HGo,HK⟩:=hrel
  have hk1:(0:Int)≤(k:Int):=by omega
  by_cases hlt:k<n
  ·have hk2:(k:Int)<(n:Int):=by omega
   have hk3:k<9223372036854775807:=by omega
   obtain⟨x,hx,_⟩:=HS.out.get hlt
   obtain⟨b,o,rfl,hat⟩:=HS.out.at (Nat.lt_of_le_of_lt (Nat.zero_le _) hlt)
   have HX:=zH (fun W hW=>hat W hW k x hx)
   have HY:=zH (HYes.out k x hx)
   have HGk:Hid (¬x.c=q→∀(i:Nat) v,i<k+1→l[i]?=some v→¬v.c=q):=zH fun h i v hi hv=>by
    by_cases hik:i=k
    ·subst hik;rw[hx] at hv;injection hv with hv;subst hv;exact h
    ·exact HGo.out i v (by omega) hv
   clear hat hx
   by_cases he:x.c=q
   ·have HR:=zH (HY.out he)
    have he2:(x.c==q)=true:=by simpa using he
    clear he HGk HY
    go_wp2_with (first|refine wpList_exe (exec_lr (x:=x) (off:=o+k*3) _ (by rfl) (by rfl) (HX.out _ HK.out.b)) (by rfl) ?_|(refine wpList_akr HK rfl rfl ?_;intro _ g2 HK';simp only[lcA,lnA] at HK';replace HK:=HK';clear HK')|(refine wpList_sr HK 0 rfl _ _ rfl rfl rfl rfl ?_;intro _ HK';simp only[List.set] at HK';replace HK:=HK';clear HK')|refine wpList_exe (kexec_lc0 HK 0 _ (by rfl) (by rfl) (by rfl)) (by rfl) ?_)
    go_ret
    exact⟨by rw[HR.out]<;>rfl,HK.out.b⟩
   ·have he2:(x.c==q)=false:=by simpa using he
    replace HGk:=zH (HGk.out he)
    clear he HY
    go_wp2_with (first|refine wpList_exe (exec_lr (x:=x) (off:=o+k*3) _ (by rfl) (by rfl) (HX.out _ HK.out.b)) (by rfl) ?_|(refine wpList_akr HK rfl rfl ?_;intro _ g2 HK';simp only[lcA,lnA] at HK';replace HK:=HK';clear HK')|(refine wpList_sr HK 0 rfl _ _ rfl rfl rfl rfl ?_;intro _ HK';simp only[List.set] at HK';replace HK:=HK';clear HK')|refine wpList_exe (kexec_lc0 HK 0 _ (by rfl) (by rfl) (by rfl)) (by rfl) ?_|refine wpList_exe (exec_add1 (j:=k) _ (by rfl) (by rfl) hk3) (by rfl) ?_)
    exact⟨⟨k+1,hlt,rfl,HGk,zH (HK.out.takeL 0)⟩,by simp[intOf];omega⟩
  ·obtain rfl:k=n:=by omega
   have HR:=zH (HNo.out HGo.out)
   go_wp2_with fail
   go_ret
   exact⟨by rw[HR.out]<;>rfl,HK.out.b⟩
theorem gright_any(m:Int)(A:Option Addr)(c n:Nat)(l:List Rf)(w:World)(hs:Sls rfLay rF w A n c l):
  Calls Tryz.prog 109 #[.int .i64 m,.slice A n c] w (IsB (decide (Gt.Right m l)) w):=by
 have HM:=zH (fun W (hW:Below w.heap.size w W)=>lright_any A c n l W (hs.later hW))
 have HK:=zH (Kn.start w)
 have hlen:=hs.len
 unfold IsB at *
 by_cases h1:1≤m
 case neg=>
  rw[decide_eq_false (fun h=>h1 h.1)]
  clear hs hlen HM
  go_enter Tryz.func109,Tryz.ntmps109
  go_wp2_with fail
  go_ret
  exact⟨rfl,HK.out.b⟩
 by_cases h2:m≤5
 case neg=>
  rw[decide_eq_false (fun h=>h2 h.2.1)]
  clear hs hlen HM
  go_enter Tryz.func109,Tryz.ntmps109
  go_wp2_with fail
  go_ret
  exact⟨rfl,HK.out.b⟩
 by_cases h3:(n:Int)<m
 case neg=>
  rw[decide_eq_false (fun h=>h3 (by rw[← hlen];exact h.2.2.1))]
  clear hs hlen HM
  go_enter Tryz.func109,Tryz.ntmps109
  go_wp2_with fail
  go_ret
  exact⟨rfl,HK.out.b⟩
 have he:decide (Gt.Right m l)=decide (Lck.Right l):=decide_eq_decide.2 ⟨fun h=>h.2.2.2,fun h=>⟨h1,h2,by rw[hlen];exact h3,h⟩⟩
 rw[he]
 clear hs hlen he
 generalize decide (Lck.Right l)=b at *
 go_enter Tryz.func109,Tryz.ntmps109
 go_wp2_with fail
 refine(HM.out _ HK.out.b).mono ?_;rintro e w1 ⟨rfl,b1⟩
 replace HK:=hkC HK b1;clear b1
 go_wp2_with fail
 go_ret
 exact⟨by cases b<;>rfl,HK.out.b⟩
end
end Go.Proofs.YtddpmlcpfmmbeaaGreat
