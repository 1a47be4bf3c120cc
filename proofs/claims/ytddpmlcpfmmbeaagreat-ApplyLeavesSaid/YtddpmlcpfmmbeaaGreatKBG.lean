/- What Drop returns: the objects without a session, and replies of others. No condition but those named. -/
import Derived.Test.YtddpmlcpfmmbeaaGreatTk
import Derived.Test.YtddpmlcpfmmbeaaGreatKAU
import Derived.Test.YtddpmlcpfmmbeaaGreatKAV
import Derived.Test.YtddpmlcpfmmbeaaGreatKBC
import Derived.Test.YtddpmlcpfmmbeaaGreatKBF
import Derived.Test.YtddpmlcpfmmbeaaGreatKAO
import Derived.Test.YtddpmlcpfmmbeaaGreatKAS
import Derived.Test.YtddpmlcpfmmbeaaGreatKAW
set_option linter.unusedSimpArgs false
set_option linter.unusedVariables false
set_option maxRecDepth 100000
set_option maxHeartbeats 25600000
namespace Go.Proofs.YtddpmlcpfmmbeaaGreat
section
open Go.RowKit
theorem without_any(A:Option Addr)(c n:Nat)(l:List Rf)(r:Rf)(w:World)(hs:Sls rfLay rF w A n c l):
  Calls Tryz.prog 154 #[.slice A n c,.agg #[.int .i64 r.c,.int .i64 r.e,.int .i64 r.r]] w (IsLg rfLay (Lck.wo l r) w):=by
 have HS:=zH hs
 have HSe:=zH (fun x W=>session_any x W)
 have HK:=kn1 w 35 #[.int .i64 r.c,.int .i64 r.e,.int .i64 r.r]
 have hbig:n*24≤140737488355328:=hs.big
 have hn63:n<9223372036854775807:=by omega
 have HTake:Hid (l.take n=l):=zH (by rw[← hs.len];exact List.take_length)
 have HTl:Hid (∀k,k≤n→(Lck.wo (l.take k) r).length≤k):=zH fun k hk=>Nat.le_trans (Lck.wo_le _ _) (by rw[List.length_take];omega)
 clear hs
 go_enter Tryz.func154,Tryz.ntmps154
 go_wp2_with (first|(refine wpList_mk0 rfLay HK rfl rfl ?_;intro _ g2 HK';simp only[lnA] at HK';replace HK:=HK';clear HK'))
 go_loopw [5,11] (fun vs vi wr=>∃(k:Nat) (A1:Option Addr) (c1 N:Nat),k≤n∧vs=.slice A1 N c1∧vi=.int .i64 k∧Hid ((Lck.wo (l.take k) r).length=N)∧Hid (Kn w.heap.size w wr [(w.heap.size,35,#[.int .i64 r.c,.int .i64 r.e,.int .i64 r.r])] [row rfLay (.slice A1 N c1) (Lck.wo (l.take k) r)])) (fun _ vi _=>n-(intOf vi).toNat)
 case atStart=>exact⟨0,_,_,0,Nat.zero_le _,rfl,rfl,zH rfl,HK⟩
 case round=>
  clear HK
  obtain⟨k,A1,c1,N,hk,rfl,rfl,hN,HK⟩:=hrel
  have hk1:(0:Int)≤(k:Int):=by omega
  by_cases hlt:k<n
  ·have hk2:(k:Int)<(n:Int):=by omega
   have hk3:k<9223372036854775807:=by omega
   obtain⟨x,hx,_⟩:=HS.out.get hlt
   obtain⟨b,o,rfl,hat⟩:=HS.out.at (Nat.lt_of_le_of_lt (Nat.zero_le _) hlt)
   have HX:=zH (fun W hW=>hat W hW k x hx)
   have hNk:N≤k:=by rw[← hN.out];exact HTl.out k hk
   have HM:=mine_ne x r
   by_cases hm:Lck.mine x r
   ·have HE:=zH (Lck.wo_take_out hx hm)
    rw[decide_eq_true hm] at HM
    replace HM:=zH HM
    clear hat hx hm
    go_wp2_with (first|refine wpList_exe (exec_lr (x:=x) (off:=o+k*3) _ (by rfl) (by rfl) (HX.out _ HK.out.b)) (by rfl) ?_|(refine wpList_akr HK rfl rfl ?_;intro _ g2 HK';simp only[lcA,lnA] at HK';replace HK:=HK';clear HK')|(refine wpList_sr HK 1 rfl _ _ rfl rfl rfl rfl ?_;intro _ HK';simp only[List.set] at HK';replace HK:=HK';clear HK'))
    refine wp_region_held_drew (S:=(fun W=>Hid (Kn w.heap.size w W [(w.heap.size,35,#[.int .i64 r.c,.int .i64 r.e,.int .i64 r.r]),(g2,35,#[.int .i64 x.c,.int .i64 x.e,.int .i64 x.r])] [row rfLay (.slice A1 N c1) (Lck.wo (l.take k) r)]))) (by kernel_rfl) ?_ (fun hHeld=>?_)
    ·(try dsimp only);exact zH HK.out.drew
    refine wpAnyH_take (i:=0) (oi:=⟨some 15,_,_,_,_,_⟩) (v:=?_) rfl (by kernel_rfl) (by kernel_rfl) (by kernel_rfl) (fun _ _ _ h=>h) (Or.inl ⟨by rfl,?_⟩) (by assumption) ?_
    rotate_left
    ·(intro w hSw;refine Eq.trans (kexec_lr hSw 1 _ (by rfl) (by rfl) (by rfl)) ?_;with_reducible rfl)
    try simp only[Act.put,List.setIfInBounds_toArray,List.set_cons_zero,List.set_cons_succ]
    refine wpAnyH_take (i:=2) (oi:=⟨some 17,_,_,_,_,_⟩) (v:=?_) rfl (by kernel_rfl) (by kernel_rfl) (by kernel_rfl) (fun _ _ _ h=>h) (Or.inl ⟨by rfl,?_⟩) (by assumption) ?_
    rotate_left
    ·(intro w hSw;refine Eq.trans (kexec_lr hSw 0 _ (by rfl) (by rfl) (by rfl)) ?_;with_reducible rfl)
    try simp only[Act.put,List.setIfInBounds_toArray,List.set_cons_zero,List.set_cons_succ]
    refine wpAnyH_ready (rs:=[1]) (by kernel_rfl) (by simp) ?_
    refine AllReadyH.cons (o:=⟨some 16,_,_,_,_,_⟩) rfl (fun K hK=>?_) AllReadyH.nil
    go_simp
    go_at_call 180
    refine(HSe.out x _).mono ?_;rintro e w5 ⟨rfl,b5⟩;have hs:=zH (hHeld.out.call b5);clear b5
    refine hK.out _ _ hs (fun hHeld=>?_)
    clear hK K
    try simp only[ap1,ap2,ap3,ap4,ap5]
    refine wpAnyH_ready (rs:=[3]) (by kernel_rfl) (by simp) ?_
    refine AllReadyH.cons (o:=⟨some 18,_,_,_,_,_⟩) rfl (fun K hK=>?_) AllReadyH.nil
    go_simp
    go_at_call 180
    refine(HSe.out r _).mono ?_;rintro e w5 ⟨rfl,b5⟩;have hs:=zH (hHeld.out.call b5);clear b5
    refine hK.out _ _ hs (fun hHeld=>?_)
    clear hK K
    try simp only[ap1,ap2,ap3,ap4,ap5]
    refine wpAnyH_take (i:=4) (oi:=⟨some 19,_,_,_,_,_⟩) (v:=?_) rfl (by kernel_rfl) (by kernel_rfl) (by kernel_rfl) (fun _ _ _ h=>h) (Or.inl ⟨by rfl,?_⟩) (by assumption) ?_
    rotate_left
    ·(intro w hSw;refine Eq.trans (exec_rne (v:=⟨x.c,x.e,0⟩) (u:=⟨r.c,r.e,0⟩) _ _ (by rfl) (by rfl) (by rfl) HM.out) ?_;with_reducible rfl)
    try simp only[Act.put,List.setIfInBounds_toArray,List.set_cons_zero,List.set_cons_succ]
    refine wpAnyH_done (by kernel_rfl) ?_ _
    replace HK:=hHeld
    clear hHeld
    go_wp2_with (first|refine wpList_exe (exec_add1 (j:=k) _ (by rfl) (by rfl) hk3) (by rfl) ?_)
    refine⟨⟨k+1,A1,c1,N,hlt,rfl,rfl,zH (by rw[HE.out,hN.out]),?_⟩,by simp[intOf];omega⟩
    rw[HE.out]
    exact zH (HK.out.takeL 1)
   ·have HE:=zH (Lck.wo_take_in hx hm)
    rw[decide_eq_false hm] at HM
    replace HM:=zH HM
    have HN2:Hid ((Lck.wo (l.take k) r++[x]).length=N+1):=zH (by rw[List.length_append,hN.out];rfl)
    have HL2:=grow_ok (La:=rfLay) HN2 (by show(N+1)*24≤_;omega) (by omega)
    clear hat hx hm
    go_wp2_with (first|refine wpList_exe (exec_lr (x:=x) (off:=o+k*3) _ (by rfl) (by rfl) (HX.out _ HK.out.b)) (by rfl) ?_|(refine wpList_akr HK rfl rfl ?_;intro _ g2 HK';simp only[lcA,lnA] at HK';replace HK:=HK';clear HK')|(refine wpList_sr HK 1 rfl _ _ rfl rfl rfl rfl ?_;intro _ HK';simp only[List.set] at HK';replace HK:=HK';clear HK'))
    refine wp_region_held_drew (S:=(fun W=>Hid (Kn w.heap.size w W [(w.heap.size,35,#[.int .i64 r.c,.int .i64 r.e,.int .i64 r.r]),(g2,35,#[.int .i64 x.c,.int .i64 x.e,.int .i64 x.r])] [row rfLay (.slice A1 N c1) (Lck.wo (l.take k) r)]))) (by kernel_rfl) ?_ (fun hHeld=>?_)
    ·(try dsimp only);exact zH HK.out.drew
    refine wpAnyH_take (i:=0) (oi:=⟨some 15,_,_,_,_,_⟩) (v:=?_) rfl (by kernel_rfl) (by kernel_rfl) (by kernel_rfl) (fun _ _ _ h=>h) (Or.inl ⟨by rfl,?_⟩) (by assumption) ?_
    rotate_left
    ·(intro w hSw;refine Eq.trans (kexec_lr hSw 1 _ (by rfl) (by rfl) (by rfl)) ?_;with_reducible rfl)
    try simp only[Act.put,List.setIfInBounds_toArray,List.set_cons_zero,List.set_cons_succ]
    refine wpAnyH_take (i:=2) (oi:=⟨some 17,_,_,_,_,_⟩) (v:=?_) rfl (by kernel_rfl) (by kernel_rfl) (by kernel_rfl) (fun _ _ _ h=>h) (Or.inl ⟨by rfl,?_⟩) (by assumption) ?_
    rotate_left
    ·(intro w hSw;refine Eq.trans (kexec_lr hSw 0 _ (by rfl) (by rfl) (by rfl)) ?_;with_reducible rfl)
    try simp only[Act.put,List.setIfInBounds_toArray,List.set_cons_zero,List.set_cons_succ]
    refine wpAnyH_ready (rs:=[1]) (by kernel_rfl) (by simp) ?_
    refine AllReadyH.cons (o:=⟨some 16,_,_,_,_,_⟩) rfl (fun K hK=>?_) AllReadyH.nil
    go_simp
    go_at_call 180
    refine(HSe.out x _).mono ?_;rintro e w5 ⟨rfl,b5⟩;have hs:=zH (hHeld.out.call b5);clear b5
    refine hK.out _ _ hs (fun hHeld=>?_)
    clear hK K
    try simp only[ap1,ap2,ap3,ap4,ap5]
    refine wpAnyH_ready (rs:=[3]) (by kernel_rfl) (by simp) ?_
    refine AllReadyH.cons (o:=⟨some 18,_,_,_,_,_⟩) rfl (fun K hK=>?_) AllReadyH.nil
    go_simp
    go_at_call 180
    refine(HSe.out r _).mono ?_;rintro e w5 ⟨rfl,b5⟩;have hs:=zH (hHeld.out.call b5);clear b5
    refine hK.out _ _ hs (fun hHeld=>?_)
    clear hK K
    try simp only[ap1,ap2,ap3,ap4,ap5]
    refine wpAnyH_take (i:=4) (oi:=⟨some 19,_,_,_,_,_⟩) (v:=?_) rfl (by kernel_rfl) (by kernel_rfl) (by kernel_rfl) (fun _ _ _ h=>h) (Or.inl ⟨by rfl,?_⟩) (by assumption) ?_
    rotate_left
    ·(intro w hSw;refine Eq.trans (exec_rne (v:=⟨x.c,x.e,0⟩) (u:=⟨r.c,r.e,0⟩) _ _ (by rfl) (by rfl) (by rfl) HM.out) ?_;with_reducible rfl)
    try simp only[Act.put,List.setIfInBounds_toArray,List.set_cons_zero,List.set_cons_succ]
    refine wpAnyH_done (by kernel_rfl) ?_ _
    replace HK:=hHeld
    clear hHeld
    go_wp2_with (first|refine wpList_exe (kexec_lr HK 1 _ (by rfl) (by rfl) (by rfl)) (by rfl) ?_|(refine wpList_mk1 rfLay (p:=x) HK (by decide) rfl _ rfl rfl rfl ?_;intro _ g5 HK';simp only[lcA,lnA] at HK';have HR:=zH (HK'.out.own 1 rfl).rd;replace HK:=HK';clear HK')|(at_builtin;refine wpList_kmore HK rfLay 0 rfl _ _ rfl rfl rfl [x] rfl rfl HR HL2 (N:=N+1) HN2 ?_;intro A4 c4 _ HK';simp only[List.set] at HK';replace HK:=HK';clear HK')|refine wpList_exe (exec_add1 (j:=k) _ (by rfl) (by rfl) hk3) (by rfl) ?_)
    refine⟨⟨k+1,A4,c4,N+1,hlt,rfl,rfl,zH (by rw[HE.out,HN2.out]),?_⟩,by simp[intOf];omega⟩
    rw[HE.out]
    exact zH ((HK.out.takeL 1).takeR 1)
  ·obtain rfl:k=n:=by omega
   rw[HTake.out] at HK
   go_wp2_with fail
   go_ret
   exact⟨A1,_,c1,rfl,HK.out.own 0 rfl,HK.out.b⟩
end
section
open Go.RowKit
def IsDr(r:List Rf)(y:Rf)(h:Bool)(w:World)(e:Ending)(w':World):Prop:=∃A n c,e=.returned (.tuple #[.slice A n c,.agg #[.int .i64 y.c,.int .i64 y.e,.int .i64 y.r],.bool h])∧rfLay.Own w.heap.size w' (.slice A n c) r∧Below w.heap.size w w'
theorem ldrop_any(A:Option Addr)(c n:Nat)(l:List Rf)(r:Rf)(w:World)(hs:Sls rfLay rF w A n c l):
  Calls Tryz.prog 125 #[.slice A n c,.agg #[.int .i64 r.c,.int .i64 r.e,.int .i64 r.r]] w (IsDr (Lck.drL l r) (Lck.drN l r) (Lck.drS l r) w):=by
 have HM:=zH (fun W (hW:Below w.heap.size w W)=>lright_any A c n l W (hs.later hW))
 have HWo:=zH (fun W (hW:Below w.heap.size w W)=>without_any A c n l r W (hs.later hW))
 have HHl:=zH (fun W (hW:Below w.heap.size w W)=>holder_any A c n l W (hs.later hW))
 have HS:=zH hs
 have HJ:=zH rconcat_any
 have hlen:=hs.len
 have HFw:Hid (Fits rfLay rF (Lck.wo l r)):=zH (hs.fit.sub (fun x hx=>(List.mem_filter.1 hx).1) (Lck.wo_le l r))
 have HK:=kn1 w 35 #[.int .i64 r.c,.int .i64 r.e,.int .i64 r.r]
 unfold IsB IsDr at *
 by_cases hr:Lck.Right l
 case neg=>
  rw[decide_eq_false hr] at HM
  obtain⟨e1,e2,e3⟩:=Lck.dr_bad (r:=r) hr
  rw[e1,e2,e3]
  clear e1 e2 e3 hr hs hlen HWo HHl HFw
  go_enter Tryz.func125,Tryz.ntmps125
  go_wp2_with (first|(refine wpList_akr HK rfl rfl ?_;intro _ g1 HK';simp only[lcA,lnA] at HK';replace HK:=HK';clear HK'))
  refine(HM.out _ HK.out.b).mono ?_;rintro e w1 ⟨rfl,b1⟩
  replace HK:=hkC HK b1;clear b1
  go_wp2_with (first|(refine wpList_mks1 rfLay rfNest HK rfl _ rfl rfl ?_;intro w2 g7 HK' _;simp only[lcA,lnA] at HK';replace HK:=HK';clear HK'))
  refine(HJ.out.one HK 2 rfl (HS.out.later HK.out.b)).mono ?_;rintro e w3 ⟨A4,n4,c4,rfl,o4,b4⟩;replace HK:=zH (HK.out.called b4 o4);simp only[lnA] at HK;clear o4 b4
  go_wp2_with (first|(refine wpList_sr HK 1 rfl _ _ rfl rfl rfl rfl ?_;intro _ HK';simp only[List.set] at HK';replace HK:=HK';clear HK'))
  exact ret_srb Tryz.results125 rfl rfl rfl rfl (HK.out.blk 1 rfl) ⟨A4,n4,c4,rfl,HK.out.own 0 rfl,HK.out.b⟩
 case pos=>
 rw[decide_eq_true hr] at HM
 have HHw:=zH (fun W A c n (h:Sls rfLay rF W A n c (Lck.wo l r))=>holder_any A c n (Lck.wo l r) W h)
 have HNo:Hid ((Lck.wo l r).length=0→Lck.drL l r=Lck.wo l r∧Lck.drN l r=Lck.zero∧Lck.drS l r=false):=zH (Lck.dr_none hr)
 have HSm:Hid (0<(Lck.wo l r).length→(Lck.wo l r).headD Lck.zero=l.headD Lck.zero→Lck.drL l r=Lck.wo l r∧Lck.drN l r=Lck.zero∧Lck.drS l r=false):=zH fun h1 h2=>by
  obtain⟨x,hx⟩:=Lay.get_of h1
  obtain⟨y,hy⟩:=Lck.wo_first hx
  rw[Lck.head_of hx,Lck.head_of hy] at h2
  exact Lck.dr_same hr hx hy h2
 have HNe:Hid (0<(Lck.wo l r).length→¬(Lck.wo l r).headD Lck.zero=l.headD Lck.zero→Lck.drL l r=Lck.wo l r∧Lck.drN l r=(Lck.wo l r).headD Lck.zero∧Lck.drS l r=true):=zH fun h1 h2=>by
  obtain⟨x,hx⟩:=Lay.get_of h1
  obtain⟨y,hy⟩:=Lck.wo_first hx
  rw[Lck.head_of hx,Lck.head_of hy] at h2
  rw[Lck.head_of hx]
  exact Lck.dr_new hr hx hy h2
 clear hr hs hlen HJ HS
 unfold IsLg at *
 generalize Lck.drL l r=dl at *
 generalize Lck.drN l r=dn at *
 generalize Lck.drS l r=ds at *
 generalize (Lck.wo l r).headD Lck.zero=y at *
 generalize Lck.wo l r=m at *
 generalize l.headD Lck.zero=x at *
 have hcase:m.length=0∨(0<m.length∧y=x)∨(0<m.length∧¬y=x):=by
  by_cases h1:m.length=0
  ·exact .inl h1
  ·by_cases h2:y=x
   ·exact .inr (.inl ⟨by omega,h2⟩)
   ·exact .inr (.inr ⟨by omega,h2⟩)
 rcases hcase with h0|⟨h0,he⟩|⟨h0,he⟩
 ·obtain⟨rfl,rfl,rfl⟩:=HNo.out h0
  have h0':¬0<dl.length:=by omega
  clear HNo HSm HNe h0
  go_enter Tryz.func125,Tryz.ntmps125
  go_wp2_with (first|(refine wpList_akr HK rfl rfl ?_;intro _ g1 HK';simp only[lcA,lnA] at HK';replace HK:=HK';clear HK'))
  refine(HM.out _ HK.out.b).mono ?_;rintro e w1 ⟨rfl,b1⟩
  replace HK:=hkC HK b1;clear b1
  go_wp2_with (first|refine wpList_exe (kexec_lr HK 0 _ (by rfl) (by rfl) (by rfl)) (by rfl) ?_)
  refine(HWo.out _ HK.out.b).mono ?_;rintro e w3 ⟨A4,n4,c4,rfl,o4,b4⟩
  obtain rfl:=(Lay.Own.reads o4).1
  replace HK:=zH (HK.out.called b4 o4)
  simp only[lnA] at HK
  clear o4 b4
  go_wp2_with fail
  refine(HHl.out _ HK.out.b).mono ?_;rintro e w1 ⟨rfl,b1⟩
  replace HK:=hkC HK b1;clear b1
  go_wp2_with (first|(refine wpList_akr HK rfl rfl ?_;intro _ g8 HK';simp only[lcA,lnA] at HK';replace HK:=HK';clear HK')|(refine wpList_sr HK 2 rfl _ _ rfl rfl rfl rfl ?_;intro _ HK';simp only[List.set] at HK';replace HK:=HK';clear HK'))
  refine(HHw.out _ _ _ _ (Sls.own (HK.out.own 0 rfl) HFw.out)).mono ?_;rintro e w1 ⟨rfl,b1⟩
  replace HK:=hkC HK b1;clear b1
  rw[decide_eq_false h0']
  go_wp2_with (first|(refine wpList_akr HK rfl rfl ?_;intro _ g9 HK';simp only[lcA,lnA] at HK';replace HK:=HK';clear HK')|(refine wpList_sr HK 3 rfl _ _ rfl rfl rfl rfl ?_;intro _ HK';simp only[List.set] at HK';replace HK:=HK';clear HK')|(refine wpList_sr HK 1 rfl _ _ rfl rfl rfl rfl ?_;intro _ HK';simp only[List.set] at HK';replace HK:=HK';clear HK'))
  exact ret_srb Tryz.results125 rfl rfl rfl rfl (HK.out.blk 1 rfl) ⟨A4,_,c4,rfl,HK.out.own 0 rfl,HK.out.b⟩
 ·obtain⟨rfl,rfl,rfl⟩:=HSm.out h0 he
  subst he
  have HE:=zH (req_self y)
  clear HNo HSm HNe
  go_enter Tryz.func125,Tryz.ntmps125
  go_wp2_with (first|(refine wpList_akr HK rfl rfl ?_;intro _ g1 HK';simp only[lcA,lnA] at HK';replace HK:=HK';clear HK'))
  refine(HM.out _ HK.out.b).mono ?_;rintro e w1 ⟨rfl,b1⟩
  replace HK:=hkC HK b1;clear b1
  go_wp2_with (first|refine wpList_exe (kexec_lr HK 0 _ (by rfl) (by rfl) (by rfl)) (by rfl) ?_)
  refine(HWo.out _ HK.out.b).mono ?_;rintro e w3 ⟨A4,n4,c4,rfl,o4,b4⟩
  obtain rfl:=(Lay.Own.reads o4).1
  replace HK:=zH (HK.out.called b4 o4)
  simp only[lnA] at HK
  clear o4 b4
  go_wp2_with fail
  refine(HHl.out _ HK.out.b).mono ?_;rintro e w1 ⟨rfl,b1⟩
  replace HK:=hkC HK b1;clear b1
  go_wp2_with (first|(refine wpList_akr HK rfl rfl ?_;intro _ g8 HK';simp only[lcA,lnA] at HK';replace HK:=HK';clear HK')|(refine wpList_sr HK 2 rfl _ _ rfl rfl rfl rfl ?_;intro _ HK';simp only[List.set] at HK';replace HK:=HK';clear HK'))
  refine(HHw.out _ _ _ _ (Sls.own (HK.out.own 0 rfl) HFw.out)).mono ?_;rintro e w1 ⟨rfl,b1⟩
  replace HK:=hkC HK b1;clear b1
  rw[decide_eq_true h0]
  go_wp2_with (first|(refine wpList_akr HK rfl rfl ?_;intro _ g9 HK';simp only[lcA,lnA] at HK';replace HK:=HK';clear HK')|(refine wpList_sr HK 3 rfl _ _ rfl rfl rfl rfl ?_;intro _ HK';simp only[List.set] at HK';replace HK:=HK';clear HK')|refine wpList_exe (kexec_lr HK 3 _ (by rfl) (by rfl) (by rfl)) (by rfl) ?_|refine wpList_exe (kexec_lr HK 2 _ (by rfl) (by rfl) (by rfl)) (by rfl) ?_|refine wpList_exe (exec_req (v:=y) (u:=y) _ _ (by rfl) (by rfl) (by rfl) HE.out) (by rfl) ?_|(refine wpList_sr HK 1 rfl _ _ rfl rfl rfl rfl ?_;intro _ HK';simp only[List.set] at HK';replace HK:=HK';clear HK'))
  exact ret_srb Tryz.results125 rfl rfl rfl rfl (HK.out.blk 1 rfl) ⟨A4,_,c4,rfl,HK.out.own 0 rfl,HK.out.b⟩
 ·obtain⟨rfl,rfl,rfl⟩:=HNe.out h0 he
  have HE:=zH (show decide (dn=x)=false from decide_eq_false he)
  clear HNo HSm HNe he
  go_enter Tryz.func125,Tryz.ntmps125
  go_wp2_with (first|(refine wpList_akr HK rfl rfl ?_;intro _ g1 HK';simp only[lcA,lnA] at HK';replace HK:=HK';clear HK'))
  refine(HM.out _ HK.out.b).mono ?_;rintro e w1 ⟨rfl,b1⟩
  replace HK:=hkC HK b1;clear b1
  go_wp2_with (first|refine wpList_exe (kexec_lr HK 0 _ (by rfl) (by rfl) (by rfl)) (by rfl) ?_)
  refine(HWo.out _ HK.out.b).mono ?_;rintro e w3 ⟨A4,n4,c4,rfl,o4,b4⟩
  obtain rfl:=(Lay.Own.reads o4).1
  replace HK:=zH (HK.out.called b4 o4)
  simp only[lnA] at HK
  clear o4 b4
  go_wp2_with fail
  refine(HHl.out _ HK.out.b).mono ?_;rintro e w1 ⟨rfl,b1⟩
  replace HK:=hkC HK b1;clear b1
  go_wp2_with (first|(refine wpList_akr HK rfl rfl ?_;intro _ g8 HK';simp only[lcA,lnA] at HK';replace HK:=HK';clear HK')|(refine wpList_sr HK 2 rfl _ _ rfl rfl rfl rfl ?_;intro _ HK';simp only[List.set] at HK';replace HK:=HK';clear HK'))
  refine(HHw.out _ _ _ _ (Sls.own (HK.out.own 0 rfl) HFw.out)).mono ?_;rintro e w1 ⟨rfl,b1⟩
  replace HK:=hkC HK b1;clear b1
  rw[decide_eq_true h0]
  go_wp2_with (first|(refine wpList_akr HK rfl rfl ?_;intro _ g9 HK';simp only[lcA,lnA] at HK';replace HK:=HK';clear HK')|(refine wpList_sr HK 3 rfl _ _ rfl rfl rfl rfl ?_;intro _ HK';simp only[List.set] at HK';replace HK:=HK';clear HK')|refine wpList_exe (kexec_lr HK 3 _ (by rfl) (by rfl) (by rfl)) (by rfl) ?_|refine wpList_exe (kexec_lr HK 2 _ (by rfl) (by rfl) (by rfl)) (by rfl) ?_|refine wpList_exe (exec_req (v:=dn) (u:=x) _ _ (by rfl) (by rfl) (by rfl) HE.out) (by rfl) ?_)
  have HK0:=zH HK.out.drew
  refine wp_region_held_drew (S:=(fun W=>Hid (Kn w.heap.size w W [(g9,35,#[.int .i64 dn.c,.int .i64 dn.e,.int .i64 dn.r])] []))) (by kernel_rfl) ?_ (fun hHeld=>?_)
  ·(try dsimp only);exact zH ((HK0.out.dropL 3).takeR 0)
  refine wpAnyH_take (i:=0) (oi:=⟨some 41,_,_,_,_,_⟩) (v:=?_) rfl (by kernel_rfl) (by kernel_rfl) (by kernel_rfl) (fun _ _ _ h=>h) (Or.inl ⟨by rfl,?_⟩) (by assumption) ?_
  rotate_left
  ·(intro w hSw;(try dsimp only at hSw);go_simp;try with_reducible rfl)
  try simp only[Act.put,List.setIfInBounds_toArray,List.set_cons_zero,List.set_cons_succ]
  refine wpAnyH_take (i:=1) (oi:=⟨some 42,_,_,_,_,_⟩) (v:=?_) rfl (by kernel_rfl) (by kernel_rfl) (by kernel_rfl) (fun _ _ _ h=>h) (Or.inl ⟨by rfl,?_⟩) (by assumption) ?_
  rotate_left
  ·(intro w hSw;refine Eq.trans (kexec_lr hSw 0 _ (by rfl) (by rfl) (by rfl)) ?_;with_reducible rfl)
  try simp only[Act.put,List.setIfInBounds_toArray,List.set_cons_zero,List.set_cons_succ]
  refine wpAnyH_take (i:=2) (oi:=⟨some 4,_,_,_,_,_⟩) (v:=?_) rfl (by kernel_rfl) (by kernel_rfl) (by kernel_rfl) (fun _ _ _ h=>h) (Or.inl ⟨by rfl,?_⟩) (by assumption) ?_
  rotate_left
  ·(intro w hSw;(try dsimp only at hSw);go_simp;try with_reducible rfl)
  try simp only[Act.put,List.setIfInBounds_toArray,List.set_cons_zero,List.set_cons_succ]
  refine wpAnyH_ready (rs:=[3]) (by kernel_rfl) (by simp) ?_
  refine AllReadyH.cons (o:=⟨none,_,_,_,_,_⟩) rfl (fun K hK=>?_) AllReadyH.nil
  refine step_sr HK0 1 (by rfl) _ _ (by rfl) (by rfl) (by rfl) (by rfl) ?_;intro wq HK';simp only[List.set] at HK';replace HK0:=HK';clear HK';have hs:=zH ((HK0.out.dropL 3).takeR 0)
  refine hK.out _ _ hs (fun hHeld=>?_)
  clear hK K
  try simp only[ap1,ap2,ap3,ap4,ap5]
  refine wpAnyH_take (i:=4) (oi:=⟨some 6,_,_,_,_,_⟩) (v:=?_) rfl (by kernel_rfl) (by kernel_rfl) (by kernel_rfl) (fun _ _ _ h=>h) (Or.inl ⟨by rfl,?_⟩) (by assumption) ?_
  rotate_left
  ·(intro w hSw;(try dsimp only at hSw);go_simp;try with_reducible rfl)
  try simp only[Act.put,List.setIfInBounds_toArray,List.set_cons_zero,List.set_cons_succ]
  refine wpAnyH_done (by kernel_rfl) ?_ _
  all_goals
   go_wp2_with fail
   exact ret_srb Tryz.results125 rfl rfl rfl rfl (HK0.out.blk 1 rfl) ⟨A4,_,c4,rfl,HK0.out.own 0 rfl,HK0.out.b⟩
end
section
open Go.RowKit
theorem get_setS{l:List Oh}{k:Nat}{x:Oh}(y:Oh)(h:l[k]?=some x):(l.set k y)[k]?=some y:=by
 have hk:=(List.getElem?_eq_some_iff.1 h).1
 rw[List.getElem?_set_self hk]
theorem vs_setS(l:List Oh)(i:Nat)(y:Oh):vs (l.set i y)=(vs l).set i y.v:=by
 unfold vs
 rw[List.map_set]
theorem Kn.ins{b0:Nat}{w0 w:World}{L:List (Nat×TypeId×Array Value)}{R:List RowE}{l:List Oh}(h:Kn b0 w0 w L R)(h2:∀y∈l.flatMap rows3,y∈R)(hf:∀o∈vs l,Fo o):∀x∈l,In w x:=fun x hx=>by
 have hfo:=hf x.v (List.mem_map.2 ⟨x,hx,rfl⟩)
 have hm:∀y∈rows3 x,y∈R:=fun y hy=>h2 y (List.mem_flatMap.2 ⟨x,hx,hy⟩)
 have m0:row prLay (.slice x.pA x.pn x.pc) x.v.prs∈rows3 x:=List.mem_cons_self ..
 have m1:row vaLay (.slice x.vA x.vn x.vc) x.v.vals∈rows3 x:=List.mem_cons_of_mem _ (List.mem_cons_self ..)
 have m2:row rfLay (.slice x.rA x.rn x.rc) x.v.refs∈rows3 x:=List.mem_cons_of_mem _ (List.mem_cons_of_mem _ (List.mem_cons_self ..))
 exact⟨Sl.own (h.mem (hm _ m0)) hfo.p,Sls.own (h.mem (hm _ m1)) hfo.v,Sls.own (h.mem (hm _ m2)) hfo.r,hfo.m,hfo.d⟩
theorem sdrop_any(A:Option Addr)(cp n:Nat)(l:List Oh)(r:Rf)(w:World)(hs:Obs w A n cp l):
  Calls Tryz.prog 83 #[.slice A n cp,.agg #[.int .i64 r.c,.int .i64 r.e,.int .i64 r.r]] w (IsDp (fun _=>True) (Sto.dropL (vs l) r) (Sto.dropO (vs l) r) w):=by
 have HS:=zH hs
 have HJ:=zH ojoin_any
 have HM:=zH (fun W (hW:Below w.heap.size w W)=>oright_any A cp n l W (hs.later hW))
 unfold IsB at HM
 have HK:=kn1 w 35 #[.int .i64 r.c,.int .i64 r.e,.int .i64 r.r]
 have hlen:(vs l).length=n:=by rw[vs_len];exact hs.len
 have hbig:n*144≤140737488355328:=hs.s.big
 unfold Sto.dropL Sto.dropO
 generalize hv:vs l=V at *
 have HV:=zH hv
 clear hv
 by_cases hr:Sto.Right V
 case neg=>
  rw[decide_eq_false hr] at HM
  rw[if_neg hr,if_neg hr]
  clear hs hr
  go_enter Tryz.func83,Tryz.ntmps83
  go_wp2_with (first|(refine wpList_mks1 obLay obNest HK rfl _ rfl rfl ?_;intro w2 g7 HK' _;simp only[lcA,lnA] at HK';replace HK:=HK';clear HK'))
  refine(OJoins.one HJ.out HK 1 rfl (HS.out.later HK.out.b)).mono ?_;rintro e w3 ⟨A4,n4,c4,l4,rfl,v4,k4,o4⟩
  replace HK:=zH (HK.out.join k4)
  have HFo:=zH o4.fo
  have HBg:=zH o4.s.big
  have HV4:=zH (v4.trans HV.out)
  clear v4 k4 o4
  simp only[lnA] at HK
  go_wp2_with fail
  (refine(HM.out _ HK.out.b).mono ?_;rintro e w1 ⟨rfl,b1⟩)
  replace HK:=hkC HK b1;clear b1
  go_wp2_with fail
  exact ret_t2 Tryz.results83 rfl rfl rfl (by unfold IsDp;exact⟨A4,n4,c4,l4,_,_,_,_,rfl,HV4,HK.out.takeL 0,fun _ _ _ _ _ K hm _=>⟨K.obs (hm _ (List.mem_cons_self ..)) (fun y hy=>hm _ (List.mem_cons_of_mem _ hy)) HFo.out HBg.out,Sls.none _⟩⟩)
 rw[decide_eq_true hr] at HM
 rw[if_pos hr,if_pos hr]
 have hn8:n≤8:=by have:=hr.len;rw[hlen] at this;exact this
 have HVl:Hid (V.length≤n):=zH (by rw[hlen];exact Nat.le_refl _)
 have HVn:=zH hlen
 rw[← Sto.drk_all (r:=r) HVl.out,← Sto.osk_all (r:=r) HVl.out]
 clear hs hr hlen hbig
 go_enter Tryz.func83,Tryz.ntmps83
 go_wp2_with (first|(refine wpList_mks1 obLay obNest HK rfl _ rfl rfl ?_;intro w2 g7 HK' _;simp only[lcA,lnA] at HK';replace HK:=HK';clear HK'))
 refine(OJoins.one HJ.out HK 1 rfl (HS.out.later HK.out.b)).mono ?_;rintro e w3 ⟨A4,n4,c4,l4,rfl,v4,k4,o4⟩
 replace HK:=zH (HK.out.join k4)
 have HFo:=zH o4.fo
 have HV4:=zH (v4.trans HV.out)
 have HNl:=zH o4.len
 obtain rfl:n=n4:=by
  have h1:=congrArg List.length HV4.out
  rw[vs_len,HNl.out,HVn.out] at h1
  exact h1.symm
 clear v4 k4 o4
 simp only[lnA] at HK
 replace HK:=zH (HK.out.takeL 1)
 go_wp2_with fail
 (refine(HM.out _ HK.out.b).mono ?_;rintro e w1 ⟨rfl,b1⟩)
 replace HK:=hkC HK b1;clear b1
 go_wp2_with (first|(refine wpList_mk0 otLay HK rfl rfl ?_;intro _ g2 HK';replace HK:=HK';clear HK'))
 replace HK:=zH (Kn.rot HK.out)
 have HIn0:Hid (∀(b:Nat) (W0 W:World) L R,Kn b W0 W L R→(∀z∈l4.flatMap rows3,z∈R)→∀x∈l4,In W x):=zH fun _ _ _ _ _ K hm=>K.ins hm HFo.out
 go_loopw [7,23] (fun vo vi wr=>∃(k:Nat) (A7:Option Addr) (m7 c7:Nat) (lk:List Oh) (Rk:List RowE),k≤n∧vo=.slice A7 m7 c7∧vi=.int .i64 k∧Hid (lk.length=n)∧Hid (vs lk=Sto.drk V r k)∧Hid (∀j,k≤j→lk[j]?=l4[j]?)∧Hid ((Sto.osk V r k).length=m7)∧Hid (∀(b:Nat) (W0 W:World) L R,Kn b W0 W L R→(∀z∈Rk,z∈R)→∀x∈lk,In W x)∧Hid (Kn w.heap.size w wr [(w.heap.size,35,#[.int .i64 r.c,.int .i64 r.e,.int .i64 r.r])] (row obLay (.slice A4 n c4) lk::row otLay (.slice A7 m7 c7) (Sto.osk V r k)::Rk))) (fun _ vi _=>n-(intOf vi).toNat)
 case atStart=>exact⟨0,_,_,_,l4,_,Nat.zero_le _,rfl,rfl,HNl,HV4,zH (fun _ _=>rfl),zH rfl,HIn0,HK⟩
 case round=>
  clear HK HIn0
  obtain⟨k,A7,m7,c7,lk,Rk,hk,rfl,rfl,HLk,HVk,HSm,HOl,HIn,HK⟩:=hrel
  have hk1:(0:Int)≤(k:Int):=by omega
  have hk3:k<9223372036854775807:=by omega
  by_cases hkn:k<n
  case neg=>
   obtain rfl:k=n:=by omega
   have hk2:¬(k:Int)<(k:Int):=by omega
   have HO7:=Sto.osk_len V r k
   go_wp2_with fail
   exact ret_t2 Tryz.results83 rfl rfl rfl (by unfold IsDp;exact⟨A4,k,c4,lk,A7,m7,c7,_,rfl,HVk,HK.out.takeL 0,fun _ _ _ _ _ K hm _=>⟨⟨Sls.own (K.mem (hm _ (List.mem_cons_self ..))) ⟨fun y hy=>trivial,by rw[HLk.out];show k*144≤_;omega⟩,HIn.out _ _ _ _ _ K (fun z hz=>hm _ (List.mem_cons_of_mem _ (List.mem_cons_of_mem _ hz)))⟩,Sls.own (K.mem (hm _ (List.mem_cons_of_mem _ (List.mem_cons_self ..)))) ⟨fun _ _=>trivial,by show _*72≤140737488355328;omega⟩⟩⟩)
  case pos=>
  have hk2:(k:Int)<(n:Int):=by omega
  obtain⟨x,hx⟩:=Lay.get_of (l:=l4) (k:=k) (by rw[HNl.out];exact hkn)
  have hxk:lk[k]?=some x:=by rw[HSm.out k (Nat.le_refl _)];exact hx
  have hvx:V[k]?=some x.v:=by rw[← HV4.out];exact vs_get hx
  have hml:=List.mem_of_getElem? hxk
  obtain⟨g4,rfl⟩:=HK.out.headR (La:=obLay) (j:=0) rfl (by rw[HLk.out];omega)
  have HIx:Hid (∀(b:Nat) (W0 W:World) L R,Kn b W0 W L R→(∀z∈Rk,z∈R)→In W x):=zH fun _ _ _ _ _ K hm=>HIn.out _ _ _ _ _ K hm x hml
  have HFr:Hid (Fits rfLay rF x.v.refs):=zH (HIx.out _ _ _ _ _ HK.out (fun z hz=>List.mem_cons_of_mem _ (List.mem_cons_of_mem _ hz))).r.fit
  have HDk:=zH (Sto.drk_succ (r:=r) hvx)
  have HOk:=zH (Sto.osk_succ (r:=r) hvx)
  have HSk:Hid (Sto.dr x.v r=x.v→Sto.drk V r (k+1)=Sto.drk V r k):=zH (Sto.drk_same hvx)
  have HXl:=zH hxk
  have HOb:=Sto.osk_len V r k
  have HOm:Hid (m7≤8):=zH (by have:=HOl.out;omega)
  clear hx hml hxk hvx HOb
  by_cases h3:x.v.kind=3
  ·have K3:Hid (decide (x.v.kind=3)=true):=zH (decide_eq_true h3)
   have HDd:Hid (Sto.dr x.v r = { x.v with refs:=Lck.drL x.v.refs r }):=zH (by unfold Sto.dr;rw[if_pos h3])
   have HOd:Hid (Sto.drO x.v r=Sto.held (Lck.drN x.v.refs r) (Lck.drS x.v.refs r)):=zH (by unfold Sto.drO;rw[if_pos h3])
   have HFd:=zH (fits_dr (r:=r) HFr.out)
   have HD:Hid (∀W,In W x→Calls Tryz.prog 125 #[.slice x.rA x.rn x.rc,.agg #[.int .i64 r.c,.int .i64 r.e,.int .i64 r.r]] W (IsDr (Lck.drL x.v.refs r) (Lck.drN x.v.refs r) (Lck.drS x.v.refs r) W)):=zH fun W h=>ldrop_any x.rA x.rc x.rn x.v.refs r W h.r
   unfold IsDr at HD
   clear h3
   generalize Lck.drL x.v.refs r=m at *
   generalize Lck.drN x.v.refs r=y at *
   generalize Lck.drS x.v.refs r=h at *
   have HHl:=Sto.held_len y h
   have HH:=zH (fun W=>sheld_any y h W)
   unfold IsOt at HH
   go_wp2_with (first|refine wpList_exe (exec_ixo0 (b:=g4) (i:=k) _ _ (by rfl) (by rfl) (by rfl) hkn) (by rfl) ?_|refine wpList_of_exec (v:=.agg (obA x)) (by rfl) (exec_obx (off:=k*11) _ (by rfl) (by rfl) (HK.out.atR0 (La:=obLay) (j:=0) rfl HXl.out)) ?_|(refine wpList_aob HK rfl rfl ?_;intro _ g9 HK';simp only[lcA,lnA] at HK';replace HK:=HK';clear HK')|(refine wpList_sob (y:=x) HK 1 rfl _ _ rfl rfl rfl rfl ?_;intro _ HK';simp only[List.set] at HK';replace HK:=HK';clear HK')|refine wpList_exe (kob_k HK 1 _ (by rfl) (by rfl) (by rfl)) (by rfl) ?_|refine wpList_exe (exec_ier (x:=x.v.kind) (k:=3) _ (by rfl) (by rfl) K3.out) (by rfl) ?_|refine wpList_exe (kob_r HK 1 _ (by rfl) (by rfl) (by rfl)) (by rfl) ?_|refine wpList_exe (kob_c HK 1 _ (by rfl) (by rfl) (by rfl)) (by rfl) ?_|refine wpList_exe (kexec_lr HK 0 _ (by rfl) (by rfl) (by rfl)) (by rfl) ?_|refine wpList_exe (exec_add1 (j:=k) _ (by rfl) (by rfl) hk3) (by rfl) ?_)
   refine(HD.out _ (HIx.out _ _ _ _ _ HK.out (fun z hz=>List.mem_cons_of_mem _ (List.mem_cons_of_mem _ hz)))).mono ?_;rintro e w5 ⟨A5,n5,c5,rfl,o5,b5⟩
   replace HK:=zH (HK.out.called b5 o5)
   simp only[lcA,lnA] at HK
   clear o5 b5
   have HXs:=zH (get_setS (x.sr A5 n5 c5 m) HXl.out)
   go_wp2_with (first|(refine wpList_akr HK rfl rfl ?_;intro _ g11 HK';simp only[lcA,lnA] at HK';replace HK:=HK';clear HK')|(refine wpList_sr HK 2 rfl _ _ rfl rfl rfl rfl ?_;intro _ HK';simp only[List.set] at HK';replace HK:=HK';clear HK')|refine wpList_exe (exec_ixo0 (b:=g4) (i:=k) _ _ (by rfl) (by rfl) (by rfl) hkn) (by rfl) ?_|(refine wpList_putF (La:=obLay) HK 0 rfl 56 _ _ rfl rfl k x (x.sr A5 n5 c5 m) HXl.out 5 (by decide) rfl rfl rfl rfl info_rf1 rfl ?_;clear HK;intro wq HK;simp only[List.set_cons_zero] at HK)|refine wpList_exe (kexec_lr HK 2 _ (by rfl) (by rfl) (by rfl)) (by rfl) ?_)
   refine(HH.out _).mono ?_;rintro e w6 ⟨A6,n6,c6,rfl,k6,b6⟩
   replace HK:=zH (k6 _ _ _ _ HK.out)
   have HOn:=zH (Kn.lastOwn HK.out)
   clear k6 b6
   simp only[lcA] at HK
   obtain rfl:n6=(Sto.held y h).length:=HOn.out.reads.1
   have HR:=zH HOn.out.rd
   have HL:Hid ((Sto.osk V r k).length+(Sto.held y h).length≤9223372036854775807∧((Sto.osk V r k).length+(Sto.held y h).length)*otLay.bytes≤211106232532992):=zH (by
    rw[HOl.out]
    have:=HOm.out
    refine⟨by omega,?_⟩
    show(m7+_)*72≤_
    omega)
   have HN3:Hid ((Sto.osk V r k++Sto.held y h).length=m7+(Sto.held y h).length):=zH (by rw[List.length_append,HOl.out])
   clear HHl HOn
   generalize hos:Sto.osk V r k=os at *
   have HOs:=zH hos
   clear hos
   generalize hhs:Sto.held y h=q at *
   have HHs:=zH hhs
   clear hhs
   generalize hn7:m7+q.length=N7 at *
   have HN7:=zH hn7
   clear hn7
   go_wp2_with (first|(at_builtin;refine wpList_kmore HK otLay 1 rfl _ _ rfl rfl rfl q rfl rfl HR HL (N:=N7) HN3 ?_;intro A9 c9 _ HK';simp only[List.set] at HK';replace HK:=HK';clear HK')|refine wpList_exe (exec_add1 (j:=k) _ (by rfl) (by rfl) hk3) (by rfl) ?_)
   refine⟨⟨k+1,A9,N7,c9,lk.set k (x.sr A5 n5 c5 m),Rk++[row rfLay (.slice A5 n5 c5) m],by omega,rfl,by go_num,zH (by rw[List.length_set];exact HLk.out),zH (by rw[vs_setS,HVk.out,HDk.out,HDd.out];rfl),zH (fun j hj=>by rw[List.getElem?_set_ne (by omega)];exact HSm.out j (by omega)),zH (by rw[HOk.out,HOd.out];exact HN3.out),zH (fun _ _ _ _ _ K hm z hz=>?_),?_⟩,by simp[intOf];omega⟩
   ·have h1:=HIn.out _ _ _ _ _ K (fun z hz=>hm _ (List.mem_append_left _ hz))
    rcases List.mem_or_eq_of_mem_set hz with h2|rfl
    ·exact h1 z h2
    ·exact(h1 x (List.mem_of_getElem? HXl.out)).sr (Sls.own (K.mem (hm _ (List.mem_append_right _ (List.mem_cons_self ..)))) HFd.out)
   ·rw[HOk.out,HOd.out]
    exact zH (Kn.cutR (HK.out.takeL 1))
  have K3:Hid (decide (x.v.kind=3)=false):=zH (decide_eq_false h3)
  by_cases h4:x.v.kind=4
  ·have K4:Hid (decide (x.v.kind=4)=true):=zH (decide_eq_true h4)
   have HDd:Hid (Sto.dr x.v r = { x.v with refs:=Gt.drL x.v.cap x.v.refs r }):=zH (by unfold Sto.dr;rw[if_neg (by omega),if_pos h4])
   have HOd:Hid (Sto.drO x.v r=[]):=zH (by unfold Sto.drO;rw[if_neg (by omega)])
   have HFd:=zH (fits_gdr (m:=x.v.cap) (r:=r) HFr.out)
   have HD:Hid (∀W,In W x→Calls Tryz.prog 127 #[.int .i64 x.v.cap,.slice x.rA x.rn x.rc,.agg #[.int .i64 r.c,.int .i64 r.e,.int .i64 r.r]] W (IsLg rfLay (Gt.drL x.v.cap x.v.refs r) W)):=zH fun W h=>gdrop_any x.v.cap x.rA x.rc x.rn x.v.refs r W h.r
   unfold IsLg at HD
   clear h3 h4
   generalize Gt.drL x.v.cap x.v.refs r=m at *
   go_wp2_with (first|refine wpList_exe (exec_ixo0 (b:=g4) (i:=k) _ _ (by rfl) (by rfl) (by rfl) hkn) (by rfl) ?_|refine wpList_of_exec (v:=.agg (obA x)) (by rfl) (exec_obx (off:=k*11) _ (by rfl) (by rfl) (HK.out.atR0 (La:=obLay) (j:=0) rfl HXl.out)) ?_|(refine wpList_aob HK rfl rfl ?_;intro _ g9 HK';simp only[lcA,lnA] at HK';replace HK:=HK';clear HK')|(refine wpList_sob (y:=x) HK 1 rfl _ _ rfl rfl rfl rfl ?_;intro _ HK';simp only[List.set] at HK';replace HK:=HK';clear HK')|refine wpList_exe (kob_k HK 1 _ (by rfl) (by rfl) (by rfl)) (by rfl) ?_|refine wpList_exe (exec_ier (x:=x.v.kind) (k:=3) _ (by rfl) (by rfl) K3.out) (by rfl) ?_|refine wpList_exe (exec_ier (x:=x.v.kind) (k:=4) _ (by rfl) (by rfl) K4.out) (by rfl) ?_|refine wpList_exe (kob_r HK 1 _ (by rfl) (by rfl) (by rfl)) (by rfl) ?_|refine wpList_exe (kob_c HK 1 _ (by rfl) (by rfl) (by rfl)) (by rfl) ?_|refine wpList_exe (kexec_lr HK 0 _ (by rfl) (by rfl) (by rfl)) (by rfl) ?_|refine wpList_exe (exec_add1 (j:=k) _ (by rfl) (by rfl) hk3) (by rfl) ?_)
   refine(HD.out _ (HIx.out _ _ _ _ _ HK.out (fun z hz=>List.mem_cons_of_mem _ (List.mem_cons_of_mem _ hz)))).mono ?_;rintro e w5 ⟨A5,n5,c5,rfl,o5,b5⟩
   replace HK:=zH (HK.out.called b5 o5)
   simp only[lcA,lnA] at HK
   clear o5 b5
   go_wp2_with (first|refine wpList_exe (exec_ixo0 (b:=g4) (i:=k) _ _ (by rfl) (by rfl) (by rfl) hkn) (by rfl) ?_|(refine wpList_putF (La:=obLay) HK 0 rfl 56 _ _ rfl rfl k x (x.sr A5 n5 c5 m) HXl.out 5 (by decide) rfl rfl rfl rfl info_rf1 rfl ?_;clear HK;intro wq HK;simp only[List.set_cons_zero] at HK)|refine wpList_exe (exec_add1 (j:=k) _ (by rfl) (by rfl) hk3) (by rfl) ?_)
   refine⟨⟨k+1,A7,m7,c7,lk.set k (x.sr A5 n5 c5 m),Rk++[row rfLay (.slice A5 n5 c5) m],by omega,rfl,by go_num,zH (by rw[List.length_set];exact HLk.out),zH (by rw[vs_setS,HVk.out,HDk.out,HDd.out];rfl),zH (fun j hj=>by rw[List.getElem?_set_ne (by omega)];exact HSm.out j (by omega)),zH (by rw[HOk.out,HOd.out,List.append_nil];exact HOl.out),zH (fun _ _ _ _ _ K hm z hz=>?_),?_⟩,by simp[intOf];omega⟩
   ·have h1:=HIn.out _ _ _ _ _ K (fun z hz=>hm _ (List.mem_append_left _ hz))
    rcases List.mem_or_eq_of_mem_set hz with h2|rfl
    ·exact h1 z h2
    ·exact(h1 x (List.mem_of_getElem? HXl.out)).sr (Sls.own (K.mem (hm _ (List.mem_append_right _ (List.mem_cons_self ..)))) HFd.out)
   ·rw[HOk.out,HOd.out,List.append_nil]
    exact zH (HK.out.takeL 1)
  ·have K4:Hid (decide (x.v.kind=4)=false):=zH (decide_eq_false h4)
   have HDd:Hid (Sto.dr x.v r=x.v):=zH (by unfold Sto.dr;rw[if_neg h3,if_neg h4])
   have HOd:Hid (Sto.drO x.v r=[]):=zH (by unfold Sto.drO;rw[if_neg h3])
   clear h3 h4
   go_wp2_with (first|refine wpList_exe (exec_ixo0 (b:=g4) (i:=k) _ _ (by rfl) (by rfl) (by rfl) hkn) (by rfl) ?_|refine wpList_of_exec (v:=.agg (obA x)) (by rfl) (exec_obx (off:=k*11) _ (by rfl) (by rfl) (HK.out.atR0 (La:=obLay) (j:=0) rfl HXl.out)) ?_|(refine wpList_aob HK rfl rfl ?_;intro _ g9 HK';simp only[lcA,lnA] at HK';replace HK:=HK';clear HK')|(refine wpList_sob (y:=x) HK 1 rfl _ _ rfl rfl rfl rfl ?_;intro _ HK';simp only[List.set] at HK';replace HK:=HK';clear HK')|refine wpList_exe (kob_k HK 1 _ (by rfl) (by rfl) (by rfl)) (by rfl) ?_|refine wpList_exe (exec_ier (x:=x.v.kind) (k:=3) _ (by rfl) (by rfl) K3.out) (by rfl) ?_|refine wpList_exe (exec_ier (x:=x.v.kind) (k:=4) _ (by rfl) (by rfl) K4.out) (by rfl) ?_|refine wpList_exe (kob_r HK 1 _ (by rfl) (by rfl) (by rfl)) (by rfl) ?_|refine wpList_exe (kob_c HK 1 _ (by rfl) (by rfl) (by rfl)) (by rfl) ?_|refine wpList_exe (kexec_lr HK 0 _ (by rfl) (by rfl) (by rfl)) (by rfl) ?_|refine wpList_exe (exec_add1 (j:=k) _ (by rfl) (by rfl) hk3) (by rfl) ?_)
   refine⟨⟨k+1,A7,m7,c7,lk,Rk,by omega,rfl,by go_num,HLk,zH (by rw[HSk.out HDd.out];exact HVk.out),zH (fun j hj=>HSm.out j (by omega)),zH (by rw[HOk.out,HOd.out,List.append_nil];exact HOl.out),HIn,?_⟩,by simp[intOf];omega⟩
   rw[HOk.out,HOd.out,List.append_nil]
   exact zH (HK.out.takeL 1)
end
end Go.Proofs.YtddpmlcpfmmbeaaGreat
